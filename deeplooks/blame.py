"""Who must have been bad, or may have been, when certain words were said."""

from deeplooks.aims import check_parts
from deeplooks.covers import check_length, check_line, check_position, is_honestly_bad
from deeplooks.errors import BadSet
from deeplooks.runs import Run, is_run
from deeplooks.sets import check_number, is_list, meets
from deeplooks.sieves import sieve

EITHER = "either"
GOOD = "good"
BAD = "bad"


class Telling:
    """Called with a run and the position of a look, it tells if the look said bad or its measurer is not grounded."""

    def __init__(self, system, places, words):
        self._needs = system.needs
        self._places = places
        self._words = words

    def __call__(self, run, i):
        return self._words[i] is False or meets(self._needs[self._places[i][0]], run.states[i])


def says(system, line, run, i):
    """What the look at position i may say in the run: either, good or bad; None if there is no look."""
    places = check_line(system, line)
    check_length(places, run)
    check_position(places, i)
    return _may_say(system, places[i], run.states[i])


def explains(system, foe, line, words, run):
    """True if the run is one of the foe in which each look may say its word."""
    places = _checked(system, foe, line, words)
    check_length(places, run)
    return is_run(foe, run) and _fits(system, places, words, run)


def story(system, foe, line, words):
    """The greatest run of the foe that explains the words, None if nothing explains them."""
    return greatest_story(system, foe, _checked(system, foe, line, words), words, ())


def may_be(system, foe, line, words):
    """A tuple: for each position the set of the parts that may have been bad."""
    places = _checked(system, foe, line, words)
    run = greatest_story(system, foe, places, words, ())
    return Run.blank(len(places)).states if run is None else run.states


def must_ever(system, foe, line, words, part):
    """True if the words are explained, and only by runs in which the part is bad at some moment."""
    places = _checked(system, foe, line, words)
    check_number(part, 0, system.many - 1, "part")
    if greatest_story(system, foe, places, words, ()) is None:
        return False
    return greatest_story(system, foe.less((part,)), places, words, ()) is None


def must_at(system, foe, line, words, part, i):
    """True if the words are explained, and only by runs in which the part is bad at position i."""
    places = _checked(system, foe, line, words)
    check_number(part, 0, system.many - 1, "part")
    check_position(places, i)
    if greatest_story(system, foe, places, words, ()) is None:
        return False
    return greatest_story(system, foe, places, words, ((i, part),)) is None


def greatest_story(system, foe, places, words, bars):
    """The greatest run of the foe that keeps the bars and explains the words; None if there is none."""
    run = sieve(foe, places, Telling(system, places, words), bars=bars)
    return run if _fits(system, places, words, run) else None


def check_words(places, words):
    """BadSet if there is not a word for each look of the line, and None at each other position."""
    if not is_list(words) or len(words) != len(places):
        raise BadSet("words")
    for look, word in zip(places, words):
        if look is None and word is not None or look is not None and not isinstance(word, bool):
            raise BadSet("words")


def _checked(system, foe, line, words):
    """The line as a tuple, if line, foe and words are right."""
    places = check_line(system, line)
    check_parts(system, foe)
    check_words(places, words)
    return places


def _may_say(system, look, state):
    """What the look may say when these parts are bad, None if it is no look."""
    if look is None:
        return None
    if meets(system.needs[look[0]], state):
        return EITHER
    return BAD if is_honestly_bad(system, look, state) else GOOD


def _fits(system, places, words, run):
    """True if each look may say its word in the run."""
    for look, word, state in zip(places, words, run.states):
        if _may_say(system, look, state) == (BAD if word else GOOD):
            return False
    return True
