"""The sieve: the greatest run without a caught look, and peels that show an aim to be out of reach."""

from deeplooks.aims import check_parts
from deeplooks.barring import bars_over, run_with
from deeplooks.covers import aim_on, check_line, is_reached, line_over
from deeplooks.errors import BadFoe
from deeplooks.growth import grow
from deeplooks.masks import FoeMasks
from deeplooks.runs import Run
from deeplooks.sets import is_list, is_set, meets, without


def sieve(foe, line, covered, *, bars=()):
    """The run in which the sieve ends that begins with these bars."""
    places = line_over(foe.many, line)
    return _goings(foe, places, covered, bars_over(foe, len(places), bars))[-1]


def goings(foe, line, covered):
    """A tuple of the barred runs of the sieve that puts in all caught looks each time."""
    return tuple(_goings(foe, line_over(foe.many, line), covered, []))


def peel(foe, line, covered, aim):
    """A peel for the aim as a tuple of positions; None if the sieve's run reaches the aim."""
    places = line_over(foe.many, line)
    wanted = aim_on(places, aim)
    masks = FoeMasks(foe)
    chosen = []
    run = run_with(masks, len(places), [])
    while is_reached(run, wanted):
        caught = _caught(places, covered, run)
        if not caught:
            return None
        chosen.append(caught[0])
        run = run_with(masks, len(places), [(i, places[i][1]) for i in chosen])
    return tuple(chosen)


def is_peel(foe, line, covered, aim, positions):
    """True if positions is a peel for the aim; a value of any kind may be asked for."""
    places = line_over(foe.many, line)
    wanted = aim_on(places, aim)
    if not is_list(positions) or not is_set(positions, len(places)):
        return False
    masks = FoeMasks(foe)
    bars = []
    for i in positions:
        # Only positions of looks may be asked for their cover.
        if places[i] is None or covered(run_with(masks, len(places), bars), i):
            return False
        bars.append((i, places[i][1]))
    return not is_reached(run_with(masks, len(places), bars), wanted)


def once(system, foe, line):
    """The greatest unheard run, by one pass along a line no target of which is stuck."""
    places = check_line(system, line)
    check_parts(system, foe)
    if any([look is not None and look[1] in foe.stuck for look in places]):
        raise BadFoe("stuck")
    moments = [grow(foe, foe.early)]
    states = []
    for look in places:
        state = moments[-1]
        if look is not None and not meets(system.needs[look[0]], state):
            state = without(state, (look[1],))
        states.append(state)
        moments.append(grow(foe, state))
    return Run(moments, states)


def clean_rows(system, foe, line):
    """A tuple of the sets of the parts that are clean ahead of each position and behind the last one."""
    parts = tuple(range(system.many))
    return tuple([without(parts, bad) for bad in once(system, foe, line).moments])


def _goings(foe, places, covered, bars):
    """A list of the barred runs of the sieve that begins with these bars."""
    masks = FoeMasks(foe)
    told = list(bars)
    runs = [run_with(masks, len(places), told)]
    caught = _caught(places, covered, runs[-1])
    while caught:
        told = told + [(i, places[i][1]) for i in caught]
        runs.append(run_with(masks, len(places), told))
        caught = _caught(places, covered, runs[-1])
    return runs


def _caught(places, covered, run):
    """A list of the positions of the looks that are caught in the run, ascending."""
    found = []
    for i, look in enumerate(places):
        if look is not None and look[1] in run.states[i] and not covered(run, i):
            found.append(i)
    return found
