"""Evidence: what a phrase writes and the judge reads."""

from deeplooks.errors import BadEvidence, NotThere
from deeplooks.sets import is_list, is_number
from deeplooks.systems import MOST_PARTS, MOST_PLACES

MOST_NONCE = 1000000000
MOST_LEAF = 99


class Evidence:
    """The base class of the six kinds of evidence."""

    def insides(self):
        """A tuple of the evidence directly inside: nothing, if a kind does not tell otherwise."""
        return ()

    def knots(self):
        """The number of the pieces in it, itself counted."""
        return 1 + sum([inner.knots() for inner in self.insides()])


class Nonce(Evidence):
    """The number of a session."""

    def __init__(self, number):
        _check_integer(number, MOST_NONCE, "number")
        self.number = number

    def __eq__(self, other):
        return isinstance(other, Nonce) and self.number == other.number


class Empty(Evidence):
    """No evidence."""

    def __eq__(self, other):
        return isinstance(other, Empty)


class Broken(Evidence):
    """What stands where the place did not make its sign."""

    def __init__(self, place):
        _check_integer(place, MOST_PLACES - 1, "place")
        self.place = place

    def __eq__(self, other):
        return isinstance(other, Broken) and self.place == other.place


class Said(Evidence):
    """A word of a look, put round other evidence."""

    def __init__(self, look, measurer, target, good, inner):
        _check_integer(look, MOST_LEAF, "look")
        _check_integer(measurer, MOST_PARTS - 1, "measurer")
        _check_integer(target, MOST_PARTS - 1, "target")
        _check_evidence(inner, "inner")
        self.look = look
        self.measurer = measurer
        self.target = target
        self.good = bool(good)
        self.inner = inner

    def insides(self):
        """What the word is put round."""
        return (self.inner,)

    def __eq__(self, other):
        if not isinstance(other, Said):
            return False
        if self.look != other.look or self.measurer != other.measurer or self.target != other.target:
            return False
        return self.good == other.good and self.inner == other.inner


class Signed(Evidence):
    """A signed piece: a sign of a place, put round other evidence."""

    def __init__(self, sign, place, inner):
        _check_integer(sign, MOST_LEAF, "sign")
        _check_integer(place, MOST_PLACES - 1, "place")
        _check_evidence(inner, "inner")
        self.sign = sign
        self.place = place
        self.inner = inner

    def insides(self):
        """What the sign is put round."""
        return (self.inner,)

    def __eq__(self, other):
        if not isinstance(other, Signed):
            return False
        return self.sign == other.sign and self.place == other.place and self.inner == other.inner


class Pair(Evidence):
    """A left and a right piece."""

    def __init__(self, left, right):
        _check_evidence(left, "left")
        _check_evidence(right, "right")
        self.left = left
        self.right = right

    def insides(self):
        """The left and the right piece."""
        return (self.left, self.right)

    def __eq__(self, other):
        return isinstance(other, Pair) and self.left == other.left and self.right == other.right


def at_path(evidence, path):
    """The piece to which the path leads."""
    _check_evidence(evidence, "evidence")
    if not is_list(path):
        raise NotThere("path")
    piece = evidence
    for step in path:
        piece = _inward(piece, step)
    return piece


def put_at(evidence, path, other):
    """The same evidence with other in the place of the piece at the path."""
    # This is asked for its errors alone.
    at_path(evidence, path)
    _check_evidence(other, "other")
    return _put(evidence, path, other)


def words_in(evidence):
    """A tuple of the path, the look and the word of each word in it, in reading order."""
    _check_evidence(evidence, "evidence")
    return tuple(_words(evidence, ()))


def _check_integer(value, high, name):
    """BadEvidence(name) if value is no integer of 0 .. high."""
    if not is_number(value, 0, high):
        raise BadEvidence(name)


def _check_evidence(value, name):
    """BadEvidence(name) if value is no evidence."""
    if not isinstance(value, Evidence):
        raise BadEvidence(name)


def _inward(piece, step):
    """The piece to which the step leads from this one."""
    if isinstance(step, str):
        if step == "in" and (isinstance(piece, Said) or isinstance(piece, Signed)):
            return piece.inner
        if step == "left" and isinstance(piece, Pair):
            return piece.left
        if step == "right" and isinstance(piece, Pair):
            return piece.right
    raise NotThere("path")


def _put(evidence, path, other):
    """The evidence with other at the end of a path that leads to a piece of it."""
    if len(path) == 0:
        return other
    made = _put(_inward(evidence, path[0]), path[1:], other)
    if isinstance(evidence, Said):
        return Said(evidence.look, evidence.measurer, evidence.target, evidence.good, made)
    if isinstance(evidence, Signed):
        return Signed(evidence.sign, evidence.place, made)
    if path[0] == "left":
        return Pair(made, evidence.right)
    return Pair(evidence.left, made)


def _words(evidence, path):
    """A list of the words in a piece to which the path leads."""
    if isinstance(evidence, Said):
        return [(path, evidence.look, evidence.good)] + _words(evidence.inner, (*path, "in"))
    if isinstance(evidence, Signed):
        return _words(evidence.inner, (*path, "in"))
    if isinstance(evidence, Pair):
        return _words(evidence.left, (*path, "left")) + _words(evidence.right, (*path, "right"))
    return []
