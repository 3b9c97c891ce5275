"""Which signs are enough to keep all that signs can keep, and the fewest of them."""

from deeplooks.checks import JUDGE, MOST_EVENTS
from deeplooks.errors import BadSet
from deeplooks.foes import Foe
from deeplooks.leavings import check_not_bare, leavings
from deeplooks.rows import extremes
from deeplooks.runs import Run
from deeplooks.sets import inside, is_set, least_sets, meeting_sets, meets, without
from deeplooks.ways import all_ways


def wanted(system, phrase):
    """A list of the least sets among those that copies ask for, short first."""
    check_not_bare(system, phrase)
    return _least_asked(system, phrase)


def enough(system, phrase, spots):
    """None if the spots are enough, else the first copy, step and place that lack a sign."""
    check_not_bare(system, phrase)
    _check_spots(system, phrase, spots)
    return _first_lack(system, phrase, spots)


def least_signings(system, phrase):
    """A list of the least sets of spots that are enough, short first."""
    check_not_bare(system, phrase)
    return meeting_sets(_least_asked(system, phrase), leavings(system, phrase))


def fewest_signs(system, phrase):
    """The first of the least sets of spots that are enough."""
    return least_signings(system, phrase)[0]


def weak_case(system, phrase, spots):
    """A run in which a copy is changeable if the spots are signed, and not with full signing; None if enough."""
    lack = enough(system, phrase, spots)
    if lack is None:
        return None
    look, number, k, place = lack
    event, step_place, _ = all_ways(system, phrase)[look][number][k]
    row = extremes(system, phrase)[0]
    manager = system.managers[step_place]
    early = without(tuple(sorted(system.managers)), (system.managers[place],))
    # All keys but that of the place come out ahead of the look; then only this step is bad-managed.
    states = [(manager,) if number == event else () for number in row]
    at = row.index(event)
    moments = [early] + [(manager,) if i == at or i == at + 1 else () for i in range(1, len(row) + 1)]
    return (Foe(system.many, early, [((), manager)]), row, Run(moments, states), look, number)


def _check_spots(system, phrase, value):
    """BadSet if the value is no set of leavings of the phrase."""
    if not is_set(value, MOST_EVENTS) or not inside(value, leavings(system, phrase)):
        raise BadSet("spots")


def _asked_by(way):
    """A list of what a copy with this way asks for: the step's index, the place, and the set of leavings."""
    found = []
    for k, (_, own, _) in enumerate(way):
        # The judge has no manager who could change what passes there.
        if own == JUDGE:
            continue
        for place in sorted(set([at for _, at, _ in way[1:k]])):
            if place != JUDGE and place != own:
                found.append((k, place, tuple(sorted([event for event, at, _ in way[1:k] if at == place]))))
    return found


def _least_asked(system, phrase):
    """A list of the least sets among those that copies ask for."""
    found = []
    for ways in all_ways(system, phrase):
        for way in ways:
            found = found + [spots for _, _, spots in _asked_by(way)]
    return least_sets(found)


def _first_lack(system, phrase, spots):
    """The first copy, step and place for which the spots do not meet what is asked for; None if there is none."""
    for look, ways in enumerate(all_ways(system, phrase)):
        for number, way in enumerate(ways):
            for k, place, asked in _asked_by(way):
                if not meets(asked, spots):
                    return (look, number, k, place)
    return None
