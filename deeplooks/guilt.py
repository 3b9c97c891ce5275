"""Which parts together must have been bad, and which lots explain what was said."""

from deeplooks.aims import check_parts
from deeplooks.blame import check_words, greatest_story
from deeplooks.checks import check_phrase
from deeplooks.covers import check_line
from deeplooks.errors import BadSet, TooMany
from deeplooks.foes import Foe
from deeplooks.lots import all_lots, one_step
from deeplooks.openness import checked_rows, look_line
from deeplooks.phrases import look_many
from deeplooks.rows import rows_of
from deeplooks.sets import is_list, least_sets, meeting_sets, subsets, without

MOST_STORY_PARTS = 5


def story_sets(system, foe, line, words):
    """A list of the least sets of parts that are bad in some run that explains the words."""
    places = check_line(system, line)
    check_parts(system, foe)
    check_words(places, words)
    _check_few(system)
    parts = tuple(range(system.many))
    found = []
    for held in subsets(parts):
        if greatest_story(system, foe.less(without(parts, held)), places, words, ()) is not None:
            found.append(held)
    return least_sets(found)


def guilty_lists(system, foe, line, words):
    """A list of the least sets of which each run that explains the words has some part."""
    found = story_sets(system, foe, line, words)
    # Where nothing explains the words there is no set to meet, and nobody to blame.
    return meeting_sets(found, tuple(range(system.many))) if found else []


def story_lots(system, line, words):
    """A list of the least lots by whose foes the words are explained, ascending."""
    places = check_line(system, line)
    check_words(places, words)
    _check_few(system)
    told = {}
    for lot in all_lots(system.many):
        # A larger foe explains no less; the lots one step below come earlier.
        told[lot] = any([told[near] for near in one_step(lot, -1)])
        if not told[lot]:
            told[lot] = greatest_story(system, Foe.of_lot(lot), places, words, ()) is not None
    return [lot for lot in told if told[lot] and not any([told[near] for near in one_step(lot, -1)])]


def phrase_story(system, foe, phrase, words):
    """The first look row on which some run explains the words, and the greatest such run; None if none does."""
    check_phrase(system, phrase)
    check_parts(system, foe)
    if not is_list(words) or len(words) != look_many(phrase) or not all([isinstance(word, bool) for word in words]):
        raise BadSet("words")
    order = checked_rows(system, phrase)
    for row in rows_of(order):
        places = look_line(system, phrase, row)
        run = greatest_story(system, foe, places, [words[number] for number in row], ())
        if run is not None:
            return (row, run)
    return None


def _check_few(system):
    """TooMany if the system has more parts than their sets and lots are gone through for."""
    if system.many > MOST_STORY_PARTS:
        raise TooMany("parts")
