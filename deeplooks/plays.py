"""Plays: the least rows of states that have a point, of which all rows of unheard runs are made."""

from deeplooks.aims import check_parts
from deeplooks.covers import Hearing, check_line, check_position
from deeplooks.errors import BadSet, TooMany
from deeplooks.masks import FoeMasks, mask_of, members_of
from deeplooks.sets import check_number, is_list, is_set
from deeplooks.sieves import sieve

MOST_POINTS = 14


def within(system, foe, line, rooms):
    """The greatest unheard run each state of which is inside the room of its position."""
    places = check_line(system, line)
    check_parts(system, foe)
    if not _are_rooms(system, places, rooms):
        raise BadSet("rooms")
    bars = []
    for i, room in enumerate(rooms):
        bars = bars + [(i, part) for part in range(system.many) if part not in room]
    return sieve(foe, places, Hearing(system, places), bars=bars)


def plays_of(system, foe, line, part, i):
    """A list of the plays at the point (i, part), ascending."""
    places = check_line(system, line)
    check_parts(system, foe)
    check_number(part, 0, system.many - 1, "part")
    check_position(places, i)
    most = sieve(foe, places, Hearing(system, places))
    points = [(at, held) for at, state in enumerate(most.states) for held in state]
    if len(points) > MOST_POINTS:
        raise TooMany("points")
    if (i, part) not in points:
        return []
    others = [point for point in points if point != (i, part)]
    rows = [[members_of(mask) for mask in row] for row in _least_rows(system, foe, places, (i, part), others)]
    return [tuple(row) for row in sorted(rows, key=_row_key)]


def _least_rows(system, foe, places, point, others):
    """A list of the least rows, as lists of masks, that have the point and of the other points any."""
    masks = FoeMasks(foe)
    looks = _look_masks(system, places)
    found = []
    rows = []
    for chosen in _short_first_masks(len(others)):
        # What holds a row that was found is not a least one; shorter rows come first.
        if any([play & chosen == play for play in found]):
            continue
        row = _row_with(len(places), [point] + [others[k] for k in members_of(chosen)])
        if _is_unheard(looks, row) and _is_kept(masks, row):
            found.append(chosen)
            rows.append(row)
    return rows


def _short_first_masks(many):
    """A list of all masks of so many bits, those with fewer bits first."""
    return sorted(list(range(1 << many)), key=_bit_count)


def _bit_count(mask):
    """The number of the bits of the mask."""
    return len(members_of(mask))


def _row_with(length, points):
    """A list: for each position the mask of the parts that have a point there."""
    row = [0] * length
    for at, part in points:
        row[at] = row[at] | 1 << part
    return row


def _look_masks(system, places):
    """A list: for each look its position, the mask of its target and that of what its measurer needs."""
    looks = [(at, look) for at, look in enumerate(places) if look is not None]
    return [(at, 1 << look[1], mask_of(system.needs[look[0]])) for at, look in looks]


def _is_unheard(looks, row):
    """True if no look is honestly bad when these are the states."""
    return not any([row[at] & target and not row[at] & needs for at, target, needs in looks])


def _is_kept(masks, row):
    """True if these are the states of some run: then the greatest run inside them has just them."""
    _, states = masks.barred_sets([masks.all_parts & ~mask for mask in row])
    return states == row


def _are_rooms(system, places, value):
    """True if value is a list or tuple of one set of parts for each place."""
    return is_list(value) and len(value) == len(places) and all([is_set(room, system.many) for room in value])


def _row_key(row):
    """What tells the place of a row: position by position, short first."""
    return [(len(state), state) for state in row]
