"""A row of the events of a phrase as runs find it: where each event stands, and who handles it.

A stop is a step of a copy's way on a row, as a tuple (position, signs): of the step's signs those that
the foe must have the keys for.
"""

from deeplooks.checks import JUDGE
from deeplooks.covers import check_length, is_honestly_bad
from deeplooks.events import events_of, look_events
from deeplooks.keys import was_bad
from deeplooks.openness import event_line
from deeplooks.phrases import sign_many
from deeplooks.worth import sign_holds


class Handling:
    """A row of the events of a phrase that fits the system, for a foe with memory or without.

    A run may have more positions ahead of those of the row; the key of a sealed place is out by the gaps
    behind these alone.
    """

    def __init__(self, system, phrase, row, memory, *, ahead=0, sealed=()):
        self.line = event_line(system, phrase, row)
        self.row = tuple(row)
        self.look_events = look_events(system, phrase)
        self._places = [events_of(system, phrase)[event][1] for event in self.row]
        self._managers = system.managers
        self._system = system
        self._ahead = ahead
        self._sealed = sealed
        # What memory has of a sign without a nonce is as good as its key.
        self._asked = [not memory or sign_holds(phrase, sign) for sign in range(sign_many(phrase))]

    def look_at(self, i):
        """The number of the look at position i, None if there is none."""
        event = self.row[i]
        return self.look_events.index(event) if event in self.look_events else None

    def is_heard(self, run, i):
        """True if position i is a look that is honestly bad in the run."""
        return is_honestly_bad(self._system, self.line[i], run.states[self._ahead + i])

    def heard_looks(self, run):
        """The set of the numbers of the honestly bad looks."""
        return tuple(sorted([self.look_at(i) for i in range(len(self.row)) if self.is_heard(run, i)]))

    def is_bad_managed(self, run, i):
        """True if position i is bad-managed in the run."""
        place = self._places[i]
        return place != JUDGE and self._managers[place] in run.states[self._ahead + i]

    def is_out(self, run, place, i):
        """True if the key of the place is out at position i."""
        first = self._ahead if place in self._sealed else 0
        return was_bad(run, self._managers[place], first, self._ahead + i)

    def stops_of(self, way):
        """A list of the stops of the way."""
        return [(self.row.index(event), [sign for sign in signs if self._asked[sign[0]]]) for event, _, signs in way]

    def is_changed(self, run, stop):
        """True if a copy is changeable at the stop."""
        i, signs = stop
        return self.is_bad_managed(run, i) and all([self.is_out(run, place, i) for _, place in signs])

    def is_changeable(self, run, stops):
        """True if a copy with these stops is changeable at some of them."""
        for stop in stops:
            if self.is_changed(run, stop):
                return True
        return False

    def copy_stops(self, ways):
        """A list: for each look a list of the stops of its copies, those with equal ways once."""
        # Copies with equal ways are changeable in the same runs.
        different = [list({way: True for way in found}) for found in ways]
        return [[self.stops_of(way) for way in found] for found in different]


def handling_of(system, phrase, row, run, memory):
    """The handling of the row, if the run has as many positions."""
    handling = Handling(system, phrase, row, memory)
    check_length(handling.row, run)
    return handling
