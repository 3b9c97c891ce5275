"""Phrases: who looks at whom, where, in which order, and what is signed and handed on."""

from deeplooks.errors import BadPhrase
from deeplooks.sets import check_number
from deeplooks.systems import MOST_PARTS, MOST_PLACES


class Phrase:
    """The base class of the five kinds of phrases."""


class Look(Phrase):
    """A measurer looks at a target."""

    def __init__(self, measurer, target):
        check_number(measurer, 0, MOST_PARTS - 1, "measurer")
        check_number(target, 0, MOST_PARTS - 1, "target")
        self.measurer = measurer
        self.target = target

    def leaves(self):
        """The look alone."""
        return [self]

    def parts_of(self):
        """Nothing: a look is not made of phrases."""
        return ()

    def __eq__(self, other):
        return isinstance(other, Look) and self.measurer == other.measurer and self.target == other.target


class Sign(Phrase):
    """The place where it stands signs what is in hand."""

    SIGN = "!"

    def leaves(self):
        """The sign alone."""
        return [self]

    def parts_of(self):
        """Nothing: a sign is not made of phrases."""
        return ()

    def __eq__(self, other):
        return isinstance(other, Sign)


class Ask(Phrase):
    """A place is asked to do a phrase."""

    def __init__(self, place, asked):
        check_number(place, 0, MOST_PLACES - 1, "place")
        _check_part(asked, "asked")
        self.place = place
        self.asked = asked

    def leaves(self):
        """The leaves of what is asked."""
        return self.asked.leaves()

    def parts_of(self):
        """What is asked."""
        return (self.asked,)

    def __eq__(self, other):
        return isinstance(other, Ask) and self.place == other.place and self.asked == other.asked


class Then(Phrase):
    """First one phrase, then another one with what the first one gave in hand."""

    def __init__(self, first, second):
        _check_part(first, "first")
        _check_part(second, "second")
        self.first = first
        self.second = second

    def leaves(self):
        """The leaves of the first part, then those of the second one."""
        return self.first.leaves() + self.second.leaves()

    def parts_of(self):
        """The first part and the second one."""
        return (self.first, self.second)

    def __eq__(self, other):
        return isinstance(other, Then) and self.first == other.first and self.second == other.second


class Branch(Phrase):
    """Two phrases, in turn or together, each with the evidence in hand or with none."""

    MARKS = ("-;-", "-;+", "+;-", "+;+", "-~-", "-~+", "+~-", "+~+")

    def __init__(self, left, right, *, keep_left=True, keep_right=True, together=False):
        _check_part(left, "left")
        _check_part(right, "right")
        self.left = left
        self.right = right
        self.keep_left = bool(keep_left)
        self.keep_right = bool(keep_right)
        self.together = bool(together)

    def leaves(self):
        """The leaves of the left part, then those of the right one."""
        return self.left.leaves() + self.right.leaves()

    def parts_of(self):
        """The left part and the right one."""
        return (self.left, self.right)

    def __eq__(self, other):
        if not isinstance(other, Branch):
            return False
        if self.keep_left != other.keep_left or self.keep_right != other.keep_right:
            return False
        return self.together == other.together and self.left == other.left and self.right == other.right


def in_turn(*phrases):
    """The phrases one after the other, each with what the one before gave in hand."""
    _check_all(phrases)
    whole = phrases[0]
    for part in phrases[1:]:
        whole = Then(whole, part)
    return whole


def beside(*phrases, together=True):
    """The phrases in branches that hand the evidence in hand on to each of them."""
    _check_all(phrases)
    whole = phrases[0]
    for part in phrases[1:]:
        whole = Branch(whole, part, together=together)
    return whole


def depth(phrase):
    """The depth of the phrase: 1 for a look or a sign."""
    return 1 + max([depth(part) for part in phrase.parts_of()], default=0)


def ask_many(phrase):
    """The number of asks of the phrase."""
    own = 1 if isinstance(phrase, Ask) else 0
    return own + sum([ask_many(part) for part in phrase.parts_of()])


def look_many(phrase):
    """The number of looks of the phrase."""
    return len([leaf for leaf in phrase.leaves() if isinstance(leaf, Look)])


def sign_many(phrase):
    """The number of signs of the phrase."""
    return len([leaf for leaf in phrase.leaves() if isinstance(leaf, Sign)])


def _check_part(value, name):
    """BadPhrase(name) if value is no phrase."""
    if not isinstance(value, Phrase):
        raise BadPhrase(name)


def _check_all(phrases):
    """BadPhrase if there is no phrase, or something else among them."""
    if len(phrases) == 0:
        raise BadPhrase("phrases")
    for phrase in phrases:
        _check_part(phrase, "phrases")
