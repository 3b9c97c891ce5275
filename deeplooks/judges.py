"""The judge: whether it takes evidence, and the first fault that it finds."""

from deeplooks.errors import BadEvidence, BadText
from deeplooks.evidence import Evidence, Nonce, Said, Signed
from deeplooks.evidencetexts import evidence_from
from deeplooks.worth import clean_of

STEPS_INTO_PAIR = ("left", "right")


def first_fault(system, phrase, nonce, evidence):
    """The path and the word of the first fault, None if the judge takes the evidence."""
    clean = clean_of(system, phrase, nonce)
    if not isinstance(evidence, Evidence):
        raise BadEvidence("evidence")
    return _fault_in(evidence, clean, ())


def takes(system, phrase, nonce, evidence):
    """True if the judge takes the evidence."""
    return first_fault(system, phrase, nonce, evidence) is None


def judge_text(system, phrase, nonce, text):
    """What is wrong with the text, or the first fault of the evidence that is read."""
    # The phrase and the nonce are asked for ahead of the text.
    clean = clean_of(system, phrase, nonce)
    try:
        evidence = evidence_from(text)
    except BadText as wrong:
        return ("text", wrong.place)
    return _fault_in(evidence, clean, ())


def _fault_in(piece, clean, path):
    """The first fault of a piece to which the path leads, None if it equals the clean one."""
    word = _fault_of(piece, clean)
    if word is not None:
        return (path, word)
    pairs = list(zip(piece.insides(), clean.insides()))
    steps = STEPS_INTO_PAIR if len(pairs) == 2 else ("in",)
    for step, (inner, clean_inner) in zip(steps, pairs):
        found = _fault_in(inner, clean_inner, (*path, step))
        if found is not None:
            return found
    return None


def _fault_of(piece, clean):
    """The word that tells how the piece differs from the clean one, what is inside not counted."""
    if piece.__class__.__name__ != clean.__class__.__name__:
        return "shape"
    if isinstance(piece, Nonce) and piece.number != clean.number:
        return "nonce"
    if isinstance(piece, Said):
        return _fault_of_word(piece, clean)
    if isinstance(piece, Signed):
        return _fault_of_sign(piece, clean)
    return None


def _fault_of_word(said, clean):
    """The word that tells how a word differs from the clean one."""
    if said.look != clean.look:
        return "number"
    if said.measurer != clean.measurer or said.target != clean.target:
        return "part"
    if said.good != clean.good:
        return "word"
    return None


def _fault_of_sign(signed, clean):
    """The word that tells how a signed piece differs from the clean one."""
    if signed.sign != clean.sign:
        return "number"
    if signed.place != clean.place:
        return "place"
    return None
