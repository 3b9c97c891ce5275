"""The text of evidence, and reading it."""

from deeplooks.errors import BadEvidence, BadText
from deeplooks.evidence import MOST_LEAF, MOST_NONCE, Broken, Empty, Evidence, Nonce, Pair, Said, Signed
from deeplooks.spelling import Spelling
from deeplooks.systems import MOST_PARTS, MOST_PLACES


def evidence_text(evidence):
    """The text of the evidence, without blanks."""
    if not isinstance(evidence, Evidence):
        raise BadEvidence("evidence")
    if isinstance(evidence, Nonce):
        return "#" + str(evidence.number)
    if isinstance(evidence, Empty):
        return "_"
    if isinstance(evidence, Broken):
        return "x" + str(evidence.place)
    inner = [evidence_text(piece) for piece in evidence.insides()]
    if isinstance(evidence, Said):
        word = "+" if evidence.good else "-"
        return f"{evidence.look}:{evidence.measurer}>{evidence.target}{word}({inner[0]})"
    if isinstance(evidence, Signed):
        return f"!{evidence.sign}@{evidence.place}({inner[0]})"
    return "[" + ",".join(inner) + "]"


def evidence_from(text):
    """The evidence that has this text; BadText(place) tells the first wrong sign."""
    if not isinstance(text, str):
        raise BadText(0)
    spelling = Spelling(text)
    evidence = _read(spelling)
    spelling.take_end()
    return evidence


def _read(spelling):
    """The evidence that comes next."""
    sign = spelling.next_sign()
    if sign == "#":
        spelling.take_one("#")
        return Nonce(spelling.take_number(MOST_NONCE))
    if sign == "_":
        spelling.take_one("_")
        return Empty()
    if sign == "x":
        spelling.take_one("x")
        return Broken(spelling.take_number(MOST_PLACES - 1))
    if sign == "!":
        return _read_signed(spelling)
    if sign == "[":
        return _read_pair(spelling)
    return _read_said(spelling)


def _read_said(spelling):
    """The word that comes next."""
    look = spelling.take_number(MOST_LEAF)
    spelling.take_one(":")
    measurer = spelling.take_number(MOST_PARTS - 1)
    spelling.take_one(">")
    target = spelling.take_number(MOST_PARTS - 1)
    good = spelling.take_one("+-") == "+"
    return Said(look, measurer, target, good, _read_round(spelling))


def _read_signed(spelling):
    """The signed piece that comes next."""
    spelling.take_one("!")
    number = spelling.take_number(MOST_LEAF)
    spelling.take_one("@")
    place = spelling.take_number(MOST_PLACES - 1)
    return Signed(number, place, _read_round(spelling))


def _read_pair(spelling):
    """The pair that comes next."""
    spelling.take_one("[")
    left = _read(spelling)
    spelling.take_one(",")
    right = _read(spelling)
    spelling.take_one("]")
    return Pair(left, right)


def _read_round(spelling):
    """The evidence in brackets that comes next."""
    spelling.take_one("(")
    inner = _read(spelling)
    spelling.take_one(")")
    return inner
