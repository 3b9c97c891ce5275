"""Runs of foes on lines, told by their forms."""

from deeplooks.errors import BadNumber, BadRow, BadRun
from deeplooks.gaps import grow_within
from deeplooks.sets import common, inside, is_list, is_number, is_set, joined, set_of
from deeplooks.systems import MOST_PARTS


class Run:
    """A form: the moments of each gap, and the state at each position."""

    def __init__(self, moments, states):
        if not is_list(moments) or not is_list(states) or len(moments) != len(states) + 1:
            raise BadRun(-1)
        for place, held in enumerate([*moments, *states]):
            if not is_set(held, MOST_PARTS):
                raise BadRun(place)
        self.moments = tuple([tuple(sorted(held)) for held in moments])
        self.states = tuple([tuple(sorted(held)) for held in states])

    def __len__(self):
        return len(self.states)

    @staticmethod
    def blank(length):
        """The run of this length in which nothing is ever bad."""
        if not is_number(length, 0, None):
            raise BadNumber("length")
        return Run([()] * (length + 1), [()] * length)

    def under(self, other):
        """True if each set of this run is inside the one of the other run."""
        if len(self.states) != len(other.states):
            return False
        pairs = list(zip(self.moments, other.moments)) + list(zip(self.states, other.states))
        return all([inside(held, above) for held, above in pairs])

    def bad_at(self, i):
        """The state of position i."""
        if not is_number(i, 0, len(self.states) - 1):
            raise BadRow(i)
        return self.states[i]

    def moment(self, i):
        """The moments of gap i."""
        if not is_number(i, 0, len(self.moments) - 1):
            raise BadRow(i)
        return self.moments[i]

    def dropped(self, places):
        """The run without these positions; the gaps round each of them become one."""
        gone = set_of(places, len(self.states), "places")
        moments = [self.moments[0]]
        states = []
        for place, state in enumerate(self.states):
            behind = self.moments[place + 1]
            if place in gone:
                moments[-1] = joined(moments[-1], behind)
            else:
                states.append(state)
                moments.append(behind)
        return Run(moments, states)

    def __or__(self, other):
        if len(self.states) != len(other.states):
            raise BadRun(-1)
        moments = [joined(one, two) for one, two in zip(self.moments, other.moments)]
        states = [joined(one, two) for one, two in zip(self.states, other.states)]
        return Run(moments, states)

    def __eq__(self, other):
        return isinstance(other, Run) and self.moments == other.moments and self.states == other.states


def misfit(foe, run):
    """The first gap in which the run is no form of a run of the foe, with the word that tells why."""
    for gap in range(len(run.moments)):
        word = _gap_misfit(foe, run, gap)
        if word is not None:
            return (gap, word)
    return None


def is_run(foe, run):
    """True if the run is the form of a run of the foe."""
    return misfit(foe, run) is None


def begins_with(foe, run, gap):
    """The bad set with which the gap of the run begins; the start holds all early parts that it can."""
    if gap == 0:
        return common(foe.early, run.moments[0])
    return run.states[gap - 1]


def _gap_misfit(foe, run, gap):
    """The word of the first condition that fails in the gap, None if none fails."""
    moments = run.moments[gap]
    before = begins_with(foe, run, gap)
    if not inside(before, moments):
        return "kept"
    if not inside(moments, tuple(range(foe.many))):
        return "grown"
    if moments != grow_within(foe, before, moments):
        return "grown"
    if gap == len(run.states):
        return None
    if not inside(run.states[gap], moments):
        return "inside"
    if not inside(common(foe.stuck, moments), run.states[gap]):
        return "stuck"
    return None
