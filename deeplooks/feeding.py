"""Which looks must come ahead of which, so that no order of them shuts more out."""

from deeplooks.errors import BadOrder
from deeplooks.lookrows import check_one_home, looks_once, ring_from
from deeplooks.orders import Order
from deeplooks.series import looks_phrase, n_of


def feeding_pairs(system, looks):
    """A tuple of the pairs of indexes of which the first look's target feeds that of the second, ascending."""
    return _pairs(system, looks_once(system, looks))


def feeding_ring(system, looks):
    """A tuple of indexes, the target of each look feeding that of the next one round; None if there is none."""
    held = looks_once(system, looks)
    pairs = _pairs(system, held)
    left = list(range(len(held)))
    further = _further(pairs, left)
    # Who feeds nobody that is left is in no ring; if some are left, each feeds another one that is.
    while not all([further[index] for index in left]):
        left = [index for index in left if further[index]]
        further = _further(pairs, left)
    return ring_from(left[0], further) if left else None


def feeding_order(system, looks):
    """The order on the indexes that these pairs make."""
    held = looks_once(system, looks)
    return Order(len(held), _pairs(system, held))


def is_best_order(system, looks, order):
    """True if the order on the indexes is best."""
    return _first_wrong(system, looks, order) is None


def spoiler(system, looks, order):
    """None if the order is best; else a pair that it does not hold, with a lot that shows it."""
    wrong = _first_wrong(system, looks, order)
    if wrong is None:
        return None
    parts = [looks[index][1] for index in wrong]
    return (*wrong, tuple([1 if part in parts else 0 for part in range(system.many)]))


def best_phrase(system, looks):
    """A phrase of the looks, each once, with the order that is best and their indexes; None if there is none."""
    held = looks_once(system, looks)
    check_one_home(system, held)
    if feeding_ring(system, held) is not None:
        return None
    order = feeding_order(system, held)
    return None if n_of(order) is not None else looks_phrase(system, held, order)


def _pairs(system, looks):
    """The feeding pairs of looks that were checked."""
    indexes = range(len(looks))
    return tuple([(i, j) for i in indexes for j in indexes if _feeds(system, looks[i], looks[j])])


def _feeds(system, look, other):
    """True if the target of the look feeds that of the other one."""
    measurer, target = look
    other_measurer, other_target = other
    needs = system.needs[measurer]
    if target in needs or other_target in needs:
        return False
    return target in system.needs[other_measurer] and other_target not in system.needs[other_measurer]


def _further(pairs, left):
    """A dict: for each index that is left those of them whose targets it feeds."""
    return {index: [j for i, j in pairs if i == index and j in left] for index in left}


def _first_wrong(system, looks, order):
    """The first feeding pair that the order does not hold, None if it holds all."""
    held = looks_once(system, looks)
    if not isinstance(order, Order) or order.size != len(held):
        raise BadOrder("size")
    for i, j in _pairs(system, held):
        if not order.before(i, j):
            return (i, j)
    return None
