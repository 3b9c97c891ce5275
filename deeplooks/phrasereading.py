"""Reading phrases sign by sign, with names for phrases where these are asked for."""

from deeplooks.phrases import Ask, Branch, Look, Sign, Then
from deeplooks.spelling import Spelling
from deeplooks.systems import MOST_PARTS, MOST_PLACES

LETTERS = "abcdefghijklmnopqrstuvwxyz"
MOST_LETTERS = 12


class PhraseReading(Spelling):
    """A text of a phrase; names is None if no name may stand for a phrase in it."""

    def __init__(self, text, names):
        Spelling.__init__(self, text)
        self.names = names
        self.held = []

    def read_phrase(self):
        """The phrase that comes next, with the blanks round it."""
        self.take_blanks()
        phrase = self._read_bare()
        self.take_blanks()
        return phrase

    def read_name(self):
        """The name that comes next, as many letters as it can have."""
        start = self.at
        self.take_one(LETTERS)
        while self.at < start + MOST_LETTERS and self.next_sign() != "" and self.next_sign() in LETTERS:
            self.at += 1
        return self.text[start:self.at]

    def _read_bare(self):
        """The phrase that comes next, without blanks round it."""
        sign = self.next_sign()
        if sign == Sign.SIGN:
            self.take_one(sign)
            return Sign()
        if sign == "@":
            return self._read_ask()
        if sign == "(":
            return self._read_bracket()
        if sign == "$" and self.names is not None:
            return self._read_held()
        measurer = self.take_number(MOST_PARTS - 1)
        self.take_one(">")
        return Look(measurer, self.take_number(MOST_PARTS - 1))

    def _read_ask(self):
        """The ask that comes next."""
        self.take_one("@")
        place = self.take_number(MOST_PLACES - 1)
        self.take_one("(")
        asked = self.read_phrase()
        self.take_one(")")
        return Ask(place, asked)

    def _read_bracket(self):
        """The then or the branch that comes next."""
        self.take_one("(")
        left = self.read_phrase()
        link = self._read_link()
        right = self.read_phrase()
        self.take_one(")")
        if link == "->":
            return Then(left, right)
        keep_left = link[0] == "+"
        keep_right = link[2] == "+"
        return Branch(left, right, keep_left=keep_left, keep_right=keep_right, together=link[1] == "~")

    def _read_link(self):
        """The arrow or the mark that comes next."""
        first = self.take_one("+-")
        # Only a "-" can begin an arrow.
        second = self.take_one(";~" if first == "+" else ";~>")
        if second == ">":
            return first + second
        return first + second + self.take_one("+-")

    def _read_held(self):
        """The phrase of the name that comes next; a sign stands for it as long as it is not known."""
        self.take_one("$")
        name = self.read_name()
        self.held.append(name)
        if name in self.names:
            return self.names[name]
        return Sign()
