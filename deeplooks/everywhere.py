"""When a row of looks is as strong as another one in every system, by lots and by rules."""

from deeplooks.errors import BadLine, TooMany
from deeplooks.firm import check_many, firm_rows, some_row
from deeplooks.freesystems import free_foe, free_lot, free_system
from deeplooks.lookrows import clean_masks, needs_masks
from deeplooks.sets import is_list

MOST_ROWS = 200


def matched(row, firm):
    """The first indexes of the row at which it matches the firm row, None if it does not match it."""
    found = []
    measurers = []
    at = 0
    for measurer, target in firm:
        measurers.append(measurer)
        while at < len(row) and not (row[at][0] in measurers and row[at][1] == target):
            at = at + 1
        if at == len(row):
            return None
        found.append(at)
        at = at + 1
    return tuple(found)


def strong_everywhere(many, row, other, part):
    """True if the row is as strong as the other one for the part everywhere."""
    held, firm = _checked(many, row, other, part)
    return first_weak(free_cases(many, firm, part), held) is None


def weak_system(many, row, other, part):
    """A system and a lot that the other row shuts out and the row does not; None if there are none."""
    held, firm = _checked(many, row, other, part)
    weak = first_weak(free_cases(many, firm, part), held)
    return None if weak is None else (free_system(many, weak, part), free_lot(many, weak, part))


def strong_by_rules(many, row, other, part):
    """True if the row is as strong as the other one for the part by rules."""
    held, firm = _checked(many, row, other, part)
    return _first_unmatched(firm, held) is None


def weak_by_rules(many, row, other, part):
    """A system and a foe that the other row shuts out and the row does not; None if there are none."""
    held, firm = _checked(many, row, other, part)
    weak = _first_unmatched(firm, held)
    return None if weak is None else (free_system(many, weak, part), free_foe(many, weak, part))


def all_strong(many, rows, other, part, *, by_rules=False):
    """True if each of the rows is as strong as the other one, everywhere or by rules."""
    check_many(many)
    held = rows_over(many, MOST_ROWS, rows)
    firm = firm_rows(many, other, part)
    if by_rules:
        return all([_first_unmatched(firm, row) is None for row in held])
    cases = free_cases(many, firm, part)
    return all([first_weak(cases, row) is None for row in held])


def rows_over(many, most, value):
    """A list of the rows as tuples of tuples, if there are at most so many."""
    if not is_list(value):
        raise BadLine(-1)
    if len(value) > most:
        raise TooMany("rows")
    return [some_row(many, row) for row in value]


def free_cases(many, firm, part):
    """A list of the firm rows, each with the masks of the needs of its free system, and its free lot."""
    return [(row, needs_masks(free_system(many, row, part)), free_lot(many, row, part)) for row in firm]


def first_weak(cases, row):
    """The first firm row of the cases whose free lot the row does not shut out; None if there is none."""
    for firm, needs, lot in cases:
        target = firm[-1][1]
        if not clean_masks(needs, lot, row)[-1] >> target & 1:
            return firm
    return None


def _checked(many, row, other, part):
    """The row as a tuple, and the firm rows for the part that the other row holds."""
    check_many(many)
    held = some_row(many, row)
    return (held, firm_rows(many, other, part))


def _first_unmatched(firm, row):
    """The first of these firm rows that the row does not match, None if there is none."""
    for wanted in firm:
        if matched(row, wanted) is None:
            return wanted
    return None
