"""From one row of an order to another one, by exchanges of neighbours."""

from deeplooks.errors import BadRow
from deeplooks.rows import is_row
from deeplooks.sets import is_list, is_set


def unlike(row, other):
    """The number of pairs that stand one way in the one row and the other way in the other one."""
    if not _holds_each_once(row) or not _holds_each_once(other) or len(row) != len(other):
        raise BadRow(-1)
    places = _places(row, other)
    return sum([len([behind for behind in places[k:] if behind < place]) for k, place in enumerate(places)])


def exchanges(order, row, other):
    """The fewest exchanges of neighbours, by rows of the order, that lead from row to other."""
    if not is_row(order, row):
        raise BadRow(0)
    if not is_row(order, other):
        raise BadRow(1)
    # Neighbours that stand unlike are not in order, so each exchange of such two leads to a row.
    places = _places(row, other)
    found = []
    for wanted in range(len(places)):
        at = places.index(wanted)
        while at > wanted:
            at = at - 1
            places[at], places[at + 1] = places[at + 1], places[at]
            found.append(at)
    return tuple(found)


def _holds_each_once(row):
    """True if row is a list or tuple of 0 .. n - 1, each once, in any order."""
    return is_list(row) and is_set(row, len(row))


def _places(row, other):
    """A list: where each number of row stands in the other row."""
    place = {number: k for k, number in enumerate(other)}
    return [place[number] for number in row]
