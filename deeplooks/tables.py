"""Tables: clean sets behind each beginning, which show that a phrase is shut."""

from deeplooks.aims import check_aims, check_parts
from deeplooks.cleaning import Cleaning, step_under, stepped
from deeplooks.errors import BadFoe, BadLine
from deeplooks.events import look_order
from deeplooks.masks import mask_of, members_of
from deeplooks.rows import beginnings, walk_of
from deeplooks.sets import is_list, is_pair, is_set, set_of, short_first


def step_clean(system, foe, clean, look):
    """The set of the parts that are clean behind the look, if these are ahead of it."""
    check_parts(system, foe)
    _check_free(foe)
    parts = set_of(clean, system.many, "clean")
    if not is_pair(look, system.many):
        raise BadLine(0)
    step = step_under(foe, mask_of(system.needs[look[0]]), look[1])
    return members_of(stepped(mask_of(parts), step))


def table_of(system, foe, phrase, aim):
    """A list of all beginnings with their least clean sets; None if the phrase is open."""
    wanted = check_aims(system, foe, phrase, aim)
    _check_free(foe)
    order = look_order(system, phrase)
    cleaning = Cleaning(system, phrase, walk_of(order))
    found = cleaning.clean_sets(foe)
    if not cleaning.is_shut(found, wanted):
        return None
    return [(done, _as_sets(found[mask_of(done)])) for done in beginnings(order)]


def is_table(system, foe, phrase, aim, table):
    """True if table is a table for the aim; a value of any kind may be asked for."""
    wanted = check_aims(system, foe, phrase, aim)
    _check_free(foe)
    order = look_order(system, phrase)
    told = _told_in(system, order, table)
    if told is None:
        return False
    cleaning = Cleaning(system, phrase, walk_of(order))
    if not any([not start & ~cleaning.clean_from(foe) for start in told[0]]):
        return False
    return _goes_on(cleaning, foe, told) and cleaning.is_shut(told, wanted)


def _check_free(foe):
    """BadFoe if something is stuck."""
    if foe.stuck != ():
        raise BadFoe("stuck")


def _as_sets(masks):
    """A list of the sets of the masks, short first."""
    return short_first([members_of(mask) for mask in masks])


def _told_in(system, order, value):
    """A dict from each beginning to the sets told for it, all as masks; None if it is no such table."""
    if not is_list(value):
        return None
    told = {}
    for entry in value:
        if not is_list(entry) or len(entry) != 2 or not is_set(entry[0], order.size):
            return None
        done = mask_of(entry[0])
        if done in told or not order.is_beginning(entry[0]) or not _are_sets(system, entry[1]):
            return None
        told[done] = [mask_of(parts) for parts in entry[1]]
    return told if len(told) == len(beginnings(order)) else None


def _are_sets(system, value):
    """True if value is a list or tuple of sets of parts."""
    return is_list(value) and all([is_set(parts, system.many) for parts in value])


def _goes_on(cleaning, foe, told):
    """True if behind each step from each set that is told a set is told inside what is clean there."""
    steps = cleaning.steps_under(foe)
    for done, ready in cleaning.walk:
        for number in ready:
            further = told[done | 1 << number]
            for clean in told[done]:
                behind = stepped(clean, steps[number])
                if not any([not parts & ~behind for parts in further]):
                    return False
    return True
