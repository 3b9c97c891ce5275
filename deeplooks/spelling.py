"""A text that is read sign by sign, and told up to where it could still be accepted."""

from deeplooks.errors import BadText

FIGURES = "0123456789"


class Spelling:
    """A text and the number of its signs that were read; all of them begin an accepted text."""

    def __init__(self, text):
        self.text = text
        self.at = 0

    def next_sign(self):
        """The sign that comes next, nothing at the end."""
        return self.text[self.at:self.at + 1]

    def take_one(self, signs):
        """Read one of these signs."""
        sign = self.next_sign()
        if sign == "" or sign not in signs:
            raise BadText(self.at)
        self.at += 1
        return sign

    def take_word(self, word):
        """Read all signs of the word."""
        for sign in word:
            self.take_one(sign)

    def take_blanks(self):
        """Read as many blanks as there are."""
        while self.next_sign() == " ":
            self.at += 1

    def take_number(self, high):
        """Read a number of 0 .. high, as many figures as it can have."""
        number = int(self.take_one(FIGURES[:high + 1]))
        # A further figure that would make 01 or a number above high is left: it begins nothing right.
        while number > 0 and self._figure() >= 0 and number * 10 + self._figure() <= high:
            number = number * 10 + self._figure()
            self.at += 1
        return number

    def take_end(self):
        """Nothing may stand behind what was read."""
        if self.at < len(self.text):
            raise BadText(self.at)

    def _figure(self):
        """The worth of the figure that comes next, -1 if none does."""
        sign = self.next_sign()
        return -1 if sign == "" else FIGURES.find(sign)
