"""Camps: parts that a foe can hold for ever, turn after turn."""

from deeplooks.errors import BadFoe
from deeplooks.sets import inside, is_set
from deeplooks.tours import check_pace, check_tour, met, sets_left


def camp(system, foe, tour, pace):
    """The camp that holds all others, () if there is none."""
    _check_camps(system, foe, tour, pace)
    held = foe.early
    left = _turned(system, foe, tour, pace, held)
    while left != held:
        held = left
        left = _turned(system, foe, tour, pace, held)
    return held


def is_camp(system, foe, tour, pace, parts):
    """True if parts is a camp; a value of any kind may be asked for."""
    _check_camps(system, foe, tour, pace)
    if not is_set(parts, system.many) or len(parts) == 0 or not inside(parts, foe.early):
        return False
    return inside(parts, _turned(system, foe, tour, pace, tuple(sorted(parts))))


def longest_pace(system, foe, tour):
    """The greatest pace, up to the number of parts, at which the foe is met; None if it is met at none."""
    # A larger pace leaves no less.
    for pace in range(system.many, -1, -1):
        if met(system, foe, tour, pace) is not None:
            return pace
    return None


def _check_camps(system, foe, tour, pace):
    """The errors of a tour, then BadFoe if a rule leads out of early."""
    check_tour(system, foe, tour)
    check_pace(pace)
    for premise, part in foe.rules:
        if inside(premise, foe.early) and part not in foe.early:
            raise BadFoe("early")


def _turned(system, foe, tour, pace, parts):
    """What one turn of the tour leaves of the parts."""
    return sets_left(system, foe, tour, pace, parts, len(tour))[-1]
