"""What the signs of a phrase keep from being changed, and the rounds with full signing."""

from deeplooks.checks import JUDGE, check_phrase
from deeplooks.errors import BadPhrase
from deeplooks.leavings import check_not_bare, without_signs
from deeplooks.sets import inside, joined
from deeplooks.ways import all_ways, left_before, round_of, way_of


def more_kept(system, one, other):
    """True if the phrase one keeps all that the phrase other keeps."""
    check_phrase(system, one)
    check_phrase(system, other)
    if without_signs(system, one) != without_signs(system, other):
        raise BadPhrase("other")
    for ways, other_ways in zip(all_ways(system, one), all_ways(system, other)):
        if not all([_keeps_way(way, other_way) for way, other_way in zip(ways, other_ways)]):
            return False
    return True


def full_round(system, phrase, path):
    """A tuple: for each step of the copy's way its round with full signing."""
    check_not_bare(system, phrase)
    way = way_of(system, phrase, path)
    left = left_before(system, phrase, path)
    rounds = [_with_own(step, places) for step, places in zip(way, left)]
    # The look's own place signs behind the look.
    return ((), *rounds[1:])


def _keeps_way(way, other_way):
    """True if a copy with this way is changeable at no step at which with the other way it is not."""
    for step, other_step in zip(way[1:], other_way[1:]):
        if step[1] != JUDGE and not inside(round_of(other_step), _with_own(step, round_of(step))):
            return False
    return True


def _with_own(step, places):
    """The set of the places and of the step's own one, if that is not the judge's."""
    return places if step[1] == JUDGE else joined(places, (step[1],))
