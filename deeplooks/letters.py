"""Letters between the places, and their texts."""

from deeplooks.errors import BadStep, BadText
from deeplooks.evidence import MOST_LEAF, MOST_NONCE, Evidence
from deeplooks.evidencetexts import evidence_from, evidence_text
from deeplooks.logs import check_place, check_session
from deeplooks.records import ASKED, DONE
from deeplooks.sets import is_number
from deeplooks.spelling import Spelling


class Letter:
    """Evidence that goes to the asked place, or back from it."""

    def __init__(self, nonce, ask, back, evidence):
        if not is_number(nonce, 0, MOST_NONCE):
            raise BadStep("nonce")
        if not is_number(ask, 0, MOST_LEAF):
            raise BadStep("ask")
        if not isinstance(evidence, Evidence):
            raise BadStep("evidence")
        self.nonce = nonce
        self.ask = ask
        self.back = bool(back)
        self.evidence = evidence

    def __eq__(self, other):
        if not isinstance(other, Letter):
            return False
        if self.nonce != other.nonce or self.ask != other.ask:
            return False
        return self.back == other.back and self.evidence == other.evidence


def letter_text(letter):
    """The text of the letter, with single blanks."""
    way = "back" if letter.back else "to"
    return f"{letter.nonce} {letter.ask} {way} {evidence_text(letter.evidence)}"


def letter_from(text):
    """The letter that has this text, BadText(0) if there is none."""
    if not isinstance(text, str):
        raise BadText(0)
    words = text.split(" ")
    if len(words) != 4 or words[2] not in ("to", "back"):
        raise BadText(0)
    try:
        nonce = _number_in(words[0], MOST_NONCE)
        ask = _number_in(words[1], MOST_LEAF)
        evidence = evidence_from(words[3])
    except BadText:
        raise BadText(0)
    return Letter(nonce, ask, words[2] == "back", evidence)


def letters_of(system, phrase, nonce, place, records):
    """A tuple of the letters that may be sent from the place, in the order of their records."""
    check_session(system, phrase, nonce)
    check_place(system, place)
    return tuple(letters_by(nonce, records))


def letters_by(nonce, records):
    """A list of the letters that may be sent, in the order of their records."""
    sent = [record for record in records if record.kind == ASKED or record.kind == DONE]
    return [Letter(nonce, record.event, record.kind == DONE, record.what) for record in sent]


def _number_in(word, high):
    """The number of 0 .. high that is written so."""
    spelling = Spelling(word)
    number = spelling.take_number(high)
    spelling.take_end()
    return number
