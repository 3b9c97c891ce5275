"""The system, the lot and the foe in which each look of a firm row matters."""

from deeplooks.errors import BadLine
from deeplooks.firm import check_many, first_uses, is_firm, some_row
from deeplooks.foes import Foe
from deeplooks.sets import check_number
from deeplooks.systems import System


def free_system(many, row, part):
    """The free system of the firm row."""
    held = _firm_row(many, row, part)
    targets = [target for _, target in held]
    uses = first_uses(held)
    needs = [targets[:uses[each]] if each in uses else list(range(many)) for each in range(many)]
    return System(1, [0] * many, needs, [0])


def free_lot(many, row, part):
    """The free lot of the firm row."""
    targets = [target for _, target in _firm_row(many, row, part)]
    return tuple([1 if each in targets else 0 for each in range(many)])


def free_foe(many, row, part):
    """The free foe of the firm row."""
    targets = [target for _, target in _firm_row(many, row, part)]
    rules = []
    for index, target in enumerate(targets):
        rules = rules + [((earlier,), target) for earlier in targets[:index]]
    return Foe(many, targets, rules)


def _firm_row(many, row, part):
    """The row as a tuple of tuples, if it is firm for the part."""
    check_many(many)
    held = some_row(many, row)
    check_number(part, 0, many - 1, "part")
    if not is_firm(held, part):
        raise BadLine(-1)
    return held
