"""Memories: what was made of values that came up before, as papers have few worlds and cores in many cells."""

# Deep enough for the things of lots and of pairs, and for their parts.
DEPTH = 3


def outline(value, depth=DEPTH):
    """A key that equal values share: a value without what lies deeper in it, and without what is no string."""
    if isinstance(value, tuple) and depth > 0:
        return tuple([outline(part, depth - 1) for part in value])
    return value if isinstance(value, str) else None


class Memory:
    """What was made of values, told by these and by keys that equal values share."""

    def __init__(self):
        self.entries = {}

    def recalled(self, key, value):
        """What was made of an equal value, None if nothing was."""
        for known, made in self.entries.get(key, []):
            if known == value:
                return made
        return None

    def keep(self, key, value, made):
        """Note what was made of a value."""
        self.entries.setdefault(key, []).append((value, made))
