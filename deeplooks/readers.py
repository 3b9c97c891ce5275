"""The reader: runs that the judge takes when words are changed on their way, and their machines."""

from deeplooks.aims import aim_in_row, check_aims, check_parts
from deeplooks.checks import JUDGE, check_phrase
from deeplooks.covers import check_length, is_reached
from deeplooks.driving import deliver, letters_waited_for
from deeplooks.errors import BadRow, BadRun, TooMany
from deeplooks.events import look_events, order_of
from deeplooks.handling import Handling
from deeplooks.logs import check_session
from deeplooks.machines import Machine
from deeplooks.openness import event_line
from deeplooks.rows import is_row, row_count, rows_of
from deeplooks.runs import misfit
from deeplooks.sending import recorded_by
from deeplooks.sets import meets
from deeplooks.sieves import peel, sieve
from deeplooks.ways import all_ways

MOST_ROWS = 400


class Reading:
    """Called with a run and a position of the row, it tells if the position is covered for the reader."""

    def __init__(self, system, phrase, row, *, memory=False):
        self.system = system
        self.phrase = phrase
        self.memory = bool(memory)
        self._handling = Handling(system, phrase, row, self.memory)
        self.row = self._handling.row
        self._copies = self._handling.copy_stops(all_ways(system, phrase))

    def __call__(self, run, i):
        look = self._handling.line[i]
        if look is None or meets(self.system.needs[look[0]], run.states[i]):
            return True
        return all([self._handling.is_changeable(run, stops) for stops in self._copies[self._handling.look_at(i)]])


def reads(system, foe, phrase, row, *, memory=False):
    """The greatest unread run of the foe on the row."""
    check_phrase(system, phrase)
    check_parts(system, foe)
    return sieve(foe, event_line(system, phrase, row), Reading(system, phrase, row, memory=memory))


def taken_way(system, foe, phrase, aim, *, memory=False):
    """The first row on which the greatest unread run reaches the aim, and this run; else None."""
    wanted = event_aim(system, foe, phrase, aim)
    order = checked_events(system, phrase)
    for row in rows_of(order):
        run = reads(system, foe, phrase, row, memory=memory)
        if is_reached(run, aim_in_row(wanted, row)):
            return (row, run)
    return None


def reader_peels(system, foe, phrase, aim, *, memory=False):
    """A tuple of all rows, each with its peel for the reader; None if some run is taken."""
    wanted = event_aim(system, foe, phrase, aim)
    order = checked_events(system, phrase)
    found = []
    for row in rows_of(order):
        line = event_line(system, phrase, row)
        positions = peel(foe, line, Reading(system, phrase, row, memory=memory), aim_in_row(wanted, row))
        if positions is None:
            return None
        found.append((row, positions))
    return tuple(found)


def play_out(system, foe, phrase, nonce, row, run, *, twice=False):
    """A machine that has recorded the full sending of the run on the row, and has its answer."""
    check_phrase(system, phrase)
    check_parts(system, foe)
    check_session(system, phrase, nonce)
    if not is_row(order_of(system, phrase), row):
        raise BadRow(0)
    check_length(row, run)
    wrong = misfit(foe, run)
    if wrong is not None:
        raise BadRun(wrong[0])
    records, _ = recorded_by(system, phrase, nonce, row, run)
    machine = Machine(system, phrase, nonce)
    falling = list(range(JUDGE, system.places)) if twice else []
    for event, what in zip(row, records):
        _do(machine, event, what)
        _let_fall(machine, falling)
        for letter in letters_waited_for(machine):
            deliver(machine, letter)
            _let_fall(machine, falling)
            if twice:
                deliver(machine, letter)
    return machine


def _do(machine, event, what):
    """Record the event with this word or evidence."""
    if isinstance(what, bool):
        machine.do(event, word=what)
    else:
        machine.do(event, sent=what)


def _let_fall(machine, places):
    """Let each of the places fall."""
    for place in places:
        machine.fall(place)


def event_aim(system, foe, phrase, aim):
    """The aim with an event in the place of its look number, if all is right."""
    target, number = check_aims(system, foe, phrase, aim)
    return (target, None if number is None else look_events(system, phrase)[number])


def checked_events(system, phrase):
    """The order of the phrase, if it has no more rows than are gone through."""
    if row_count(phrase) > MOST_ROWS:
        raise TooMany("rows")
    return order_of(system, phrase)
