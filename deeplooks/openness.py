"""Whether a phrase is open for an aim against a foe, with a run or with a peel for each look row."""

from deeplooks.aims import aim_in_row, check_aims
from deeplooks.checks import looks_of
from deeplooks.covers import Hearing, is_reached
from deeplooks.errors import BadRow, TooMany
from deeplooks.events import events_of, look_order, order_of
from deeplooks.rows import count_rows, is_row, rows_of
from deeplooks.sets import is_list
from deeplooks.sieves import is_peel, peel, sieve

MOST_ROWS = 800


def look_line(system, phrase, row):
    """The line of a look row."""
    if not is_row(look_order(system, phrase), row):
        raise BadRow(0)
    return _line_of(phrase, row)


def event_line(system, phrase, row):
    """The line of a row of the events: the look at each look, None at each ask and answer."""
    events = events_of(system, phrase)
    if not is_row(order_of(system, phrase), row):
        raise BadRow(0)
    return tuple([events[event][2:] if events[event][0] == "look" else None for event in row])


def is_open(system, foe, phrase, aim):
    """True if on some look row some unheard run of the foe reaches the aim."""
    return open_way(system, foe, phrase, aim) is not None


def open_way(system, foe, phrase, aim):
    """The first look row on which the greatest unheard run reaches the aim, and this run; else None."""
    wanted = check_aims(system, foe, phrase, aim)
    order = checked_rows(system, phrase)
    for row in rows_of(order):
        line = _line_of(phrase, row)
        run = sieve(foe, line, Hearing(system, line))
        if is_reached(run, aim_in_row(wanted, row)):
            return (row, run)
    return None


def peels_of(system, foe, phrase, aim):
    """A tuple of all look rows, each with its peel; None if the phrase is open."""
    wanted = check_aims(system, foe, phrase, aim)
    order = checked_rows(system, phrase)
    found = []
    for row in rows_of(order):
        line = _line_of(phrase, row)
        positions = peel(foe, line, Hearing(system, line), aim_in_row(wanted, row))
        if positions is None:
            return None
        found.append((row, positions))
    return tuple(found)


def is_peels(system, foe, phrase, aim, told):
    """True if told has each look row once with a peel for it; a value of any kind may be asked for."""
    wanted = check_aims(system, foe, phrase, aim)
    order = checked_rows(system, phrase)
    if not is_list(told) or len(told) != count_rows(order):
        return False
    seen = set()
    for entry in told:
        if not is_list(entry) or len(entry) != 2 or not is_row(order, entry[0]):
            return False
        row = tuple(entry[0])
        line = _line_of(phrase, row)
        if row in seen or not is_peel(foe, line, Hearing(system, line), aim_in_row(wanted, row), entry[1]):
            return False
        seen.add(row)
    return True


def checked_rows(system, phrase):
    """The order on the looks of the phrase, if it has no more rows than are gone through."""
    order = look_order(system, phrase)
    if count_rows(order) > MOST_ROWS:
        raise TooMany("rows")
    return order


def _line_of(phrase, row):
    """The line that has the looks with these numbers."""
    looks = looks_of(phrase)
    return tuple([(looks[number].measurer, looks[number].target) for number in row])
