"""The rows of an order, its beginnings, and how many of them there are."""

from math import comb

from deeplooks.checks import check_phrase, event_many
from deeplooks.errors import TooMany
from deeplooks.phrases import Ask, Branch, Look, Sign
from deeplooks.sets import is_list, is_set, short_first

MOST_NUMBERS = 12


def is_row(order, row):
    """True if row is a list or tuple that is a row of the order."""
    if not is_list(row) or len(row) != order.size or not is_set(row, order.size):
        return False
    place = {number: k for k, number in enumerate(row)}
    return all([place[e] < place[f] for e, f in order.pairs])


def rows_of(order):
    """All rows of the order, ascending."""
    _check_size(order)
    wanted = _wanted(order)
    row = _filled(wanted, [])
    while row is not None:
        yield tuple(row)
        row = _row_after(wanted, row)


def beginnings(order):
    """A list of all beginnings, short first."""
    _check_size(order)
    return short_first([_set_of_mask(mask) for mask in _beginning_masks(order)])


def walk_of(order):
    """A list of the masks of all beginnings, smaller ones first, each with the numbers ready behind it."""
    wanted = _wanted(order)
    return [(mask, _ready(wanted, mask)) for mask in _beginning_masks(order)]


def count_rows(order):
    """The number of rows, by the numbers of ways to come to each beginning."""
    _check_size(order)
    walk = walk_of(order)
    ways = {mask: 0 for mask, _ in walk}
    ways[0] = 1
    # Smaller beginnings come first, so the ways to one are all told before they go on from it.
    for mask, ready in walk:
        for number in ready:
            larger = mask | 1 << number
            ways[larger] = ways[larger] + ways[mask]
    return ways[(1 << order.size) - 1]


def row_count(phrase):
    """The number of rows of the events of the phrase."""
    parts = phrase.parts_of()
    if not parts:
        return 1
    if isinstance(phrase, Ask):
        return row_count(phrase.asked)
    left, right = parts
    both = row_count(left) * row_count(right)
    if isinstance(phrase, Branch) and phrase.together:
        many = event_many(left)
        return both * comb(many + event_many(right), many)
    return both


def beginning_count(phrase):
    """The number of beginnings of the order of the phrase on its events."""
    if isinstance(phrase, Sign):
        return 1
    if isinstance(phrase, Look):
        return 2
    if isinstance(phrase, Ask):
        return beginning_count(phrase.asked) + 2
    left, right = phrase.parts_of()
    if isinstance(phrase, Branch) and phrase.together:
        return beginning_count(left) * beginning_count(right)
    return beginning_count(left) + beginning_count(right) - 1


def extremes(system, phrase):
    """The rows in which of parts that are together the left one comes first, and the right one."""
    check_phrase(system, phrase)
    return (tuple(range(event_many(phrase))), tuple(_right_first(phrase, 0)))


def _right_first(phrase, first):
    """A list: the second extreme of a phrase whose first event is told."""
    parts = phrase.parts_of()
    if not parts:
        return list(range(first, first + event_many(phrase)))
    if isinstance(phrase, Ask):
        inner = _right_first(phrase.asked, first + 1)
        return [first, *inner, first + 1 + len(inner)]
    left, right = parts
    ahead = _right_first(left, first)
    behind = _right_first(right, first + len(ahead))
    if isinstance(phrase, Branch) and phrase.together:
        return behind + ahead
    return ahead + behind


def _check_size(order):
    """TooMany if the order has more numbers than its rows are gone through for."""
    if order.size > MOST_NUMBERS:
        raise TooMany("size")


def _wanted(order):
    """A list: for each number the mask of all that is ahead of it."""
    return [sum([1 << number for number in order.ahead(e)]) for e in range(order.size)]


def _ready(wanted, done):
    """A list of the numbers outside the mask done of which all that is ahead is in it, ascending."""
    return [e for e, mask in enumerate(wanted) if not done >> e & 1 and mask & done == mask]


def _filled(wanted, begun):
    """The first row that begins so."""
    row = list(begun)
    done = sum([1 << number for number in row])
    while len(row) < len(wanted):
        least = _ready(wanted, done)[0]
        row.append(least)
        done = done | 1 << least
    return row


def _row_after(wanted, row):
    """The row that comes next, None behind the last one."""
    done = (1 << len(wanted)) - 1
    # What is kept of the row is as long as can be, so that no row between is left out.
    for place in range(len(row) - 1, -1, -1):
        done = done ^ 1 << row[place]
        larger = [number for number in _ready(wanted, done) if number > row[place]]
        if larger:
            return _filled(wanted, [*row[:place], larger[0]])
    return None


def _beginning_masks(order):
    """A list of the masks of all beginnings, smaller ones first."""
    wanted = _wanted(order)
    found = []
    layer = {0: True}
    while layer:
        found = found + list(layer)
        layer = {mask | 1 << number: True for mask in layer for number in _ready(wanted, mask)}
    return found


def _set_of_mask(mask):
    """The set of the numbers in the mask."""
    return tuple([number for number in range(MOST_NUMBERS) if mask >> number & 1])
