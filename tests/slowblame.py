"""Words that runs may say, by the words of points 196 to 199, over lists of all runs."""

from itertools import product

from tests.slowsieve import union


def said(system, look, state):
    """The words that a look may say when these parts are bad, as a set; None if it is no look."""
    if look is None:
        return None
    if set(system.needs[look[0]]) & set(state):
        return {True, False}
    return {look[1] not in state}


def all_words(line):
    """All words for the line."""
    return product(*[[None] if look is None else [True, False] for look in line])


def explaining(system, line, words, forms):
    """The forms of the runs that explain the words."""
    found = []
    for form in forms:
        may = [said(system, look, state) for look, state in zip(line, form[1])]
        if all(word is None if held is None else word in held for word, held in zip(words, may)):
            found.append(form)
    return found


def parts_of_form(form):
    """The parts that are bad at some moment."""
    return frozenset().union(*form[0])


def greatest(forms, length):
    """The form of the greatest of these runs, None if there is none or none is the greatest."""
    whole = union(forms, length)
    return whole if whole in forms else None


def drawn_words(chance, system, line, run):
    """Words that the run may say."""
    words = []
    for look, state in zip(line, run.states):
        may = said(system, look, state)
        words.append(None if may is None else chance.choice(sorted(may)))
    return words


def wrong_words(line):
    """What are no words for the line, which has a look first and no look behind it."""
    right = [None if look is None else True for look in line]
    found = [right[:-1], right + [True], right + [None], [None] + right[1:], [1] + right[1:], [0] + right[1:]]
    found += [["good"] + right[1:], right[:1] + [True] + right[2:], right[:1] + [False] + right[2:], [None] * len(line)]
    return found
