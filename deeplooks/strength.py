"""When a phrase is as strong as another one, and what is clean behind a row of looks."""

from deeplooks.checks import check_phrase
from deeplooks.lookrows import MOST_IN_ROW, clean_masks, needs_masks, row_over
from deeplooks.lots import least_open
from deeplooks.masks import members_of
from deeplooks.sets import check_number
from deeplooks.sure import check_lot


def weaker_lot(system, phrase, other, part):
    """The first least open lot of the phrase that is above none of the other one's; None if it is as strong."""
    check_phrase(system, phrase)
    check_phrase(system, other)
    check_number(part, 0, system.many - 1, "part")
    opened = least_open(system, phrase, (part, None))
    other_opened = least_open(system, other, (part, None))
    for lot in opened:
        if not any([_is_above(lot, low) for low in other_opened]):
            return lot
    return None


def as_strong(system, phrase, other, part):
    """True if the phrase shuts out for the part each lot that the other one shuts out."""
    return weaker_lot(system, phrase, other, part) is None


def clean_end(system, row, levels):
    """The set of the parts that are clean behind the row."""
    held = row_over(system.many, MOST_IN_ROW, row)
    check_lot(system, levels)
    return members_of(clean_masks(needs_masks(system), levels, held)[-1])


def shuts(system, row, levels, part):
    """True if the part is clean behind the row."""
    clean = clean_end(system, row, levels)
    check_number(part, 0, system.many - 1, "part")
    return part in clean


def _is_above(lot, other):
    """True if at no part the level of the lot is less than that of the other one."""
    return all([level >= low for level, low in zip(lot, other)])
