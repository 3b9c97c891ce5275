"""Bars, and the greatest run that keeps them."""

from deeplooks.covers import MOST_POSITIONS, line_over
from deeplooks.errors import BadSet
from deeplooks.masks import FoeMasks, members_of
from deeplooks.runs import Run
from deeplooks.sets import check_number, is_list, is_number, set_of
from deeplooks.systems import MOST_PARTS


def held(foe, bars, gap):
    """The set of the stuck parts that have a bar at a position of at least the gap's."""
    told = bars_over(foe, MOST_POSITIONS, bars)
    check_number(gap, 0, MOST_POSITIONS, "gap")
    later = [part for i, part in told if i >= gap]
    return tuple([part for part in foe.stuck if part in later])


def barred_run(foe, length, bars):
    """The greatest run of this length that keeps the bars."""
    check_number(length, 0, MOST_POSITIONS, "length")
    return run_with(FoeMasks(foe), length, bars_over(foe, length, bars))


def look_bars(line, positions):
    """A tuple of the bars of the looks at these positions, ascending."""
    places = line_over(MOST_PARTS, line)
    chosen = set_of(positions, len(places), "positions")
    return tuple([(i, places[i][1]) for i in chosen if places[i] is not None])


def bars_over(foe, length, bars):
    """A list of the bars as tuples, if each is a position below the length and a part of the foe."""
    if not is_list(bars):
        raise BadSet("bars")
    for bar in bars:
        if not _is_bar(foe, length, bar):
            raise BadSet("bars")
    return [tuple(bar) for bar in bars]


def run_with(masks, length, bars):
    """The barred run of a foe's masks, for a length and bars that were checked."""
    barred = [0] * length
    for i, part in bars:
        barred[i] = barred[i] | 1 << part
    moments, states = masks.barred_sets(barred)
    return Run([members_of(mask) for mask in moments], [members_of(mask) for mask in states])


def _is_bar(foe, length, value):
    """True if value is a list or tuple of a position below the length and a part of the foe."""
    if not is_list(value) or len(value) != 2:
        return False
    return is_number(value[0], 0, length - 1) and is_number(value[1], 0, foe.many - 1)
