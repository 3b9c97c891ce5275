"""Firm rows: rows of looks each of which can matter in some system."""

from deeplooks.lookrows import MOST_LOOKS, row_over
from deeplooks.sets import check_number
from deeplooks.systems import MOST_PARTS

LEAST_PARTS = 2


def first_uses(row):
    """A dict from each measurer of the row to the index of its first look."""
    found = {}
    for index, (measurer, _) in enumerate(row):
        found.setdefault(measurer, index)
    return found


def is_firm(row, part):
    """True if the row is firm for the part."""
    measurers = []
    targets = []
    for measurer, target in row:
        measurers.append(measurer)
        if target in measurers or target in targets:
            return False
        targets.append(target)
    return len(targets) > 0 and targets[-1] == part


def firm_rows(many, row, part):
    """A list of the firm rows for the part that the row holds, shorter ones first, then ascending."""
    check_many(many)
    held = some_row(many, row)
    check_number(part, 0, many - 1, "part")
    found = {(): True}
    for look in held:
        for shorter in list(found):
            longer = (*shorter, look)
            found[longer] = True
    return sorted(sorted([shorter for shorter in found if is_firm(shorter, part)]), key=len)


def check_many(many):
    """BadNumber if there are no systems of so many parts here."""
    check_number(many, LEAST_PARTS, MOST_PARTS, "many")


def some_row(many, value):
    """A row of at most 8 looks at so many parts, as a tuple of tuples."""
    return row_over(many, MOST_LOOKS, value)
