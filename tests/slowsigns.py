"""All runs of a few managers on a row, and which copies they change, straight from points 121 and 124."""

from itertools import product

from deeplooks.foes import Foe
from deeplooks.runs import Run
from deeplooks.ways import all_ways


def life_of(states, out):
    """The moments and states of one part: bad at these positions, and for the first time in gap out."""
    length = len(states)
    moments = [False] * (length + 1)
    for i in range(length):
        moments[i] = moments[i] or states[i]
        moments[i + 1] = moments[i + 1] or states[i]
    if out is not None:
        moments[out] = True
    return tuple(moments), tuple(states)


def lives(length):
    """All lives of a part on a row: where it is bad at the positions, and in which gap it is so first."""
    for states in product([False, True], repeat=length):
        first = states.index(True) if True in states else length
        for out in [None] + list(range(first + 1)):
            if out is not None or True not in states:
                yield life_of(states, out)


def all_runs(parts, length):
    """All runs of a foe for which each of these parts is free, as far as keys and states tell."""
    every = list(lives(length))
    for chosen in product(every, repeat=len(parts)):
        moments = [[p for p, life in zip(parts, chosen) if life[0][i]] for i in range(length + 1)]
        states = [[p for p, life in zip(parts, chosen) if life[1][i]] for i in range(length)]
        yield Run(moments, states)


def free_for(many, parts):
    """The foe for which each of these parts is free."""
    return Foe(many, parts, [((), part) for part in parts])


class Copies:
    """The copies of a phrase on a row: at which positions which managers must be bad, or have been."""

    def __init__(self, system, phrase, row):
        self.stops = {}
        for look, ways in enumerate(all_ways(system, phrase)):
            for number, way in enumerate(ways):
                self.stops[look, number] = [
                    (k, row.index(event), system.managers[place], {system.managers[at] for _, at in signs})
                    for k, (event, place, signs) in enumerate(way) if place != -1]

    def changed(self, run):
        """The copies that are changeable in the run, by look and number, with the steps at which they are."""
        out = []
        seen = set()
        for moments in run.moments:
            seen = seen | set(moments)
            out.append(seen)
        found = {}
        for copy, stops in self.stops.items():
            steps = [k for k, i, manager, keys in stops if manager in run.states[i] and keys <= out[i]]
            if steps:
                found[copy] = steps
        return found


def changed_in(system, phrase, row, run):
    """The copies that are changeable in the run, with the steps at which they are."""
    return Copies(system, phrase, row).changed(run)
