"""Registers: what a place keeps of its start looks and of their words."""

from deeplooks.errors import BadEvidence, BadSet
from deeplooks.lookrows import row_over
from deeplooks.sets import is_list, is_number
from deeplooks.systems import MOST_PARTS

MOST_MIXED = 16


class Register:
    """The base class of the two kinds of registers."""


class Zero(Register):
    """The register ahead of all looks."""

    def __eq__(self, other):
        return isinstance(other, Zero)


class Mix(Register):
    """The register behind a look with its word, made of the one ahead of it."""

    def __init__(self, inner, measurer, target, good):
        if not isinstance(inner, Register):
            raise BadEvidence("inner")
        if not is_number(measurer, 0, MOST_PARTS - 1):
            raise BadEvidence("measurer")
        if not is_number(target, 0, MOST_PARTS - 1):
            raise BadEvidence("target")
        self.inner = inner
        self.measurer = measurer
        self.target = target
        self.good = bool(good)

    def __eq__(self, other):
        if not isinstance(other, Mix):
            return False
        if self.measurer != other.measurer or self.target != other.target or self.good != other.good:
            return False
        return self.inner == other.inner


def register_of(looks, words):
    """The register behind the looks with these words."""
    held = row_over(MOST_PARTS, MOST_MIXED, looks)
    if not is_list(words) or len(words) != len(held):
        raise BadSet("words")
    found = Zero()
    for (measurer, target), word in zip(held, words):
        found = Mix(found, measurer, target, word)
    return found


def rows_told(register):
    """A tuple of the looks that were mixed in, the first ones first, and of their words."""
    looks = []
    words = []
    held = register
    while isinstance(held, Mix):
        looks.append((held.measurer, held.target))
        words.append(held.good)
        held = held.inner
    return (tuple(looks[::-1]), tuple(words[::-1]))


def clean_register(looks):
    """The register behind the looks if each word is good."""
    held = row_over(MOST_PARTS, MOST_MIXED, looks)
    return register_of(held, [True] * len(held))
