"""Reading the lines of texts: numbers and sets exactly as they are written."""

from deeplooks.errors import BadText


def lines_in(text, many):
    """The lines of the text, at least so many; BadText(0) if it is no text."""
    if not isinstance(text, str):
        raise BadText(0)
    lines = text.split("\n")
    # Lines that lack are read as empty ones: no right line is empty.
    return lines + [""] * (many - len(lines))


def number_in(word, many):
    """The integer of 0 .. many - 1 that is written so, None if there is none."""
    for number in range(many):
        if str(number) == word:
            return number
    return None


def numbers_in(text, many):
    """A list of the integers below many written in text with single blanks, None if it is none."""
    numbers = [number_in(word, many) for word in text.split(" ")]
    if None in numbers:
        return None
    return numbers


def set_in(text, many):
    """The set, not empty, of integers below many that has this text, None if there is none."""
    numbers = numbers_in(text, many)
    if numbers is None or numbers != sorted(set(numbers)):
        return None
    return tuple(numbers)


def numbers_text(numbers):
    """The integers with single blanks."""
    return " ".join([str(number) for number in numbers])


def behind_word(line, word):
    """What stands in the line behind the word and a blank, None if it does not begin so."""
    if not line.startswith(word + " "):
        return None
    return line[len(word) + 1:]
