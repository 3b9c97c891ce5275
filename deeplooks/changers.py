"""Which places can change all copies of a look's word, with a run in which they do."""

from deeplooks.checks import check_phrase, looks_of
from deeplooks.events import look_events
from deeplooks.foes import Foe
from deeplooks.rows import extremes
from deeplooks.runs import Run
from deeplooks.sets import check_number, inside, joined, least_sets, set_of, subsets
from deeplooks.ways import all_ways, round_of


def changers(system, phrase, look):
    """A list of the least sets of places that can change the look, short first."""
    _check_look(system, phrase, look)
    found = [places for places in subsets(tuple(range(system.places))) if _can_change(system, phrase, look, places)]
    return least_sets(found)


def changer_run(system, phrase, look, places):
    """A foe, a row and a run in which the places change the look; None if they cannot, or it is void."""
    _check_look(system, phrase, look)
    chosen = set_of(places, system.places, "places")
    told = looks_of(phrase)[look]
    if system.void(told.measurer, told.target) or not _can_change(system, phrase, look, chosen):
        return None
    parts = joined(tuple([system.managers[place] for place in chosen]), (told.target,))
    row = extremes(system, phrase)[0]
    # At the look itself the target alone is bad, so that its measurer is grounded.
    event = look_events(system, phrase)[look]
    states = [(told.target,) if number == event else parts for number in row]
    run = Run([parts] * (len(row) + 1), states)
    return (Foe(system.many, parts, [((), part) for part in parts]), row, run)


def _check_look(system, phrase, look):
    """BadPhrase if the phrase does not fit, then BadNumber if it has no such look."""
    check_phrase(system, phrase)
    check_number(look, 0, len(looks_of(phrase)) - 1, "look")


def _can_change(system, phrase, look, places):
    """True if the places can change the look, with the own place of its target."""
    target = looks_of(phrase)[look].target
    keys = joined(places, tuple([place for place, manager in enumerate(system.managers) if manager == target]))
    for way in all_ways(system, phrase)[look]:
        if not any([_is_free(step, keys) for step in way]):
            return False
    return True


def _is_free(step, keys):
    """True if the step's place and all places of its round are among the keys; the judge's never is."""
    return inside(joined(round_of(step), (step[1],)), keys)
