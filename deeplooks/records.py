"""Records, their lines, and logs of such lines."""

from deeplooks.errors import BadStep, BadText
from deeplooks.evidence import MOST_LEAF, Evidence
from deeplooks.evidencetexts import evidence_from, evidence_text
from deeplooks.reading import number_in
from deeplooks.sets import is_number

SAID = "said"
ASKED = "asked"
BEGUN = "begun"
DONE = "done"
GOT = "got"
KINDS = ("said", "asked", "begun", "done", "got")


class Record:
    """What a station writes down: a word that was said, or evidence that went or came."""

    def __init__(self, kind, event, what):
        if not isinstance(kind, str) or kind not in KINDS:
            raise BadStep("kind")
        if not is_number(event, 0, MOST_LEAF):
            raise BadStep("event")
        if not _is_what(kind, what):
            raise BadStep("what")
        self.kind = kind
        self.event = event
        self.what = what

    def __eq__(self, other):
        if not isinstance(other, Record):
            return False
        return self.kind == other.kind and self.event == other.event and self.what == other.what


def record_text(record):
    """The line of the record, with the line feed."""
    if record.kind == SAID:
        what = "+" if record.what else "-"
    else:
        what = evidence_text(record.what)
    return f"{record.kind} {record.event} {what}\n"


def read_log(text):
    """A list of the records of the lines that end; BadText(line) tells the first that is none."""
    if not isinstance(text, str):
        raise BadText(0)
    found = []
    for line, told in enumerate(text.split("\n")[:-1]):
        record = _read_line(told)
        if record is None:
            raise BadText(line)
        found.append(record)
    return found


def mended(text):
    """The text without what stands behind its last line feed."""
    return text[:text.rfind("\n") + 1]


def _read_line(line):
    """The record that has this line, None if there is none."""
    words = line.split(" ")
    if len(words) != 3 or words[0] not in KINDS:
        return None
    event = number_in(words[1], MOST_LEAF + 1)
    what = _what_in(words[0], words[2])
    if event is None or what is None:
        return None
    return Record(words[0], event, what)


def _is_what(kind, value):
    """True if value is what a record of the kind holds."""
    if kind == SAID:
        return isinstance(value, bool)
    return isinstance(value, Evidence)


def _what_in(kind, word):
    """The word or the evidence that is written so in a record of the kind, None if there is none."""
    if kind == SAID:
        if word == "+" or word == "-":
            return word == "+"
        return None
    try:
        return evidence_from(word)
    except BadText:
        return None
