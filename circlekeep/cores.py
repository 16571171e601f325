"""Cores told by the texts of their things, so that they can be keys and are ordered as they should."""

from circlekeep.hoards import Hoard
from circlekeep.likeness import are_pairs, pair_texts
from circlekeep.memories import Memory, outline
from circlekeep.pictures import picture_in
from circlekeep.things import text_of


class Cores:
    """What comes of cores by further pairs; told pairs are pairs of texts, told cores ascending tuples of these."""

    def __init__(self, stages):
        self.book = stages[0].circle.book
        self.by_text = {}
        for stage in stages:
            self.by_text.update(stage.by_text)
        self.views = {}
        self.grown = {}
        self.memory = Memory()

    def told_pairs(self, pairs):
        """Some pairs of things with texts."""
        told = tuple([pair_texts(pair) for pair in pairs])
        for texts, things in zip(told, pairs):
            self.by_text.update(dict(zip(texts, things)))
        return told

    def told_core(self, value):
        """A core with texts, None for any other value."""
        key = outline(value)
        told = self.memory.recalled(key, value)
        if told is None and are_pairs(self.book, value):
            told = self.told_pairs(value)
            if self.core_of_pairs(told) != told:
                return None
            self.memory.keep(key, value, told)
        return told

    def core_at(self, told):
        """The core that is told."""
        return tuple([(self.by_text[text], self.by_text[other]) for text, other in told])

    def view(self, texts):
        """How the row of the things with some texts looks: its picture, and the texts of its boxes."""
        if texts not in self.views:
            hoard = Hoard(self.book, [self.by_text[text] for text in texts])
            boxes = hoard.things_at(hoard.boxes())
            self.by_text.update({text_of(box): box for box in boxes})
            self.views[texts] = (picture_in(hoard), [text_of(box) for box in boxes])
        return self.views[texts]

    def core_of_pairs(self, pairs):
        """The told core of some told pairs, None if they are not even."""
        picture, boxes = self.view(tuple([pair[0] for pair in pairs]))
        likeness, partners = self.view(tuple([pair[1] for pair in pairs]))
        return tuple(sorted(list(zip(boxes, partners)))) if picture == likeness else None

    def joined_core(self, core, pair):
        """The told core of a told core with one told pair more, None if that is not even."""
        for known in core:
            # No two boxes are one and the same thing, so what has a partner has no other one.
            if known[0] == pair[0] or known[1] == pair[1]:
                return core if known == pair else None
        if (core, pair) not in self.grown:
            self.grown[core, pair] = self.core_of_pairs([*core, pair])
        return self.grown[core, pair]
