"""What one gap between two looks can do."""

from deeplooks.growth import grow, grow_steps
from deeplooks.sets import common, inside, set_of, without


def gap_most(foe, before, behind):
    """The most that can be bad in a gap from before to behind, None if no gap leads there."""
    first = set_of(before, foe.many, "before")
    last = set_of(behind, foe.many, "behind")
    most = grow(foe, first, without(foe.stuck, last))
    if not inside(common(foe.stuck, first), last) or not inside(last, most):
        return None
    return most


def gap_deeds(foe, before, behind):
    """Deeds that lead from before to behind and make bad all that can be; None if none lead there."""
    most = gap_most(foe, before, behind)
    if most is None:
        return None
    steps = grow_steps(foe, before, without(foe.stuck, behind))
    corrupted = [("corrupt", part) for _, part in steps]
    mended = [("mend", part) for part in without(most, behind)]
    return (*corrupted, *mended)


def can_be(foe, before, moments, behind):
    """True if some gap from before to behind has just these moments."""
    first = set_of(before, foe.many, "before")
    middle = set_of(moments, foe.many, "moments")
    last = set_of(behind, foe.many, "behind")
    if not inside(first, middle) or not inside(last, middle):
        return False
    if not inside(common(foe.stuck, middle), last):
        return False
    return middle == grow_within(foe, first, middle)


def grow_within(foe, start, parts):
    """What grows from start if all outside of parts is barred."""
    return grow(foe, start, without(tuple(range(foe.many)), parts))
