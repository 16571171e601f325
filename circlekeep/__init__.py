"""Circlekeep: who of a circle comes to have, to tell apart and to know what, whatever is done."""
