"""Rows that are as strong as one another in every system, and looks that a row can spare."""

from deeplooks.everywhere import first_weak, free_cases, rows_over, strong_everywhere
from deeplooks.firm import check_many, firm_rows, some_row
from deeplooks.sets import check_number

MOST_PAIRED_ROWS = 20


def alike(many, row, other, part):
    """True if each of the two rows is as strong as the other one for the part everywhere."""
    return strong_everywhere(many, row, other, part) and strong_everywhere(many, other, row, part)


def spare(many, row, part):
    """The set of the indexes of the looks each of which the row can spare by itself."""
    cases = free_cases(many, firm_rows(many, row, part), part)
    return tuple([index for index in range(len(row)) if first_weak(cases, _less(row, index)) is None])


def shorten(many, row, part):
    """The row without its last spare look, as long as there is one."""
    check_many(many)
    held = some_row(many, row)
    found = spare(many, held, part)
    while found:
        held = _less(held, found[-1])
        found = spare(many, held, part)
    return held


def strength_pairs(many, rows, part):
    """A list of the pairs of indexes of which the first row is as strong as the second one everywhere."""
    check_many(many)
    held = rows_over(many, MOST_PAIRED_ROWS, rows)
    check_number(part, 0, many - 1, "part")
    cases = [free_cases(many, firm_rows(many, row, part), part) for row in held]
    indexes = range(len(held))
    return [(i, j) for i in indexes for j in indexes if i != j and first_weak(cases[j], held[i]) is None]


def _less(row, index):
    """The row without the look at the index."""
    return (*row[:index], *row[index + 1:])
