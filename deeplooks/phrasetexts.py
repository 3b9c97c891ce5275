"""The text of a phrase, and reading it."""

from deeplooks.errors import BadText
from deeplooks.phrasereading import PhraseReading
from deeplooks.phrases import Ask, Branch, Look, Sign, Then


def phrase_text(phrase):
    """The text of the phrase, with one blank on each side of an arrow or a mark."""
    if isinstance(phrase, Look):
        return str(phrase.measurer) + ">" + str(phrase.target)
    if isinstance(phrase, Sign):
        return Sign.SIGN
    if isinstance(phrase, Ask):
        return "@" + str(phrase.place) + "(" + phrase_text(phrase.asked) + ")"
    if isinstance(phrase, Then):
        return "(" + phrase_text(phrase.first) + " -> " + phrase_text(phrase.second) + ")"
    return "(" + phrase_text(phrase.left) + " " + _mark(phrase) + " " + phrase_text(phrase.right) + ")"


def phrase_from(text):
    """The phrase that has this text; BadText(place) tells the first wrong sign."""
    if not isinstance(text, str):
        raise BadText(0)
    reading = PhraseReading(text, None)
    phrase = reading.read_phrase()
    reading.take_end()
    return phrase


def _mark(branch):
    """The mark of the branch."""
    index = 2 if branch.keep_left else 0
    if branch.keep_right:
        index = index + 1
    if branch.together:
        index = index + 4
    return Branch.MARKS[index]
