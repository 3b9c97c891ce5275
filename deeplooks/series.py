"""Orders that branches alone can make, and the phrases that do it."""

from deeplooks.errors import BadOrder
from deeplooks.lookrows import check_one_home, looks_over
from deeplooks.orders import Order
from deeplooks.phrases import Ask, Look, beside
from deeplooks.sets import joined


def n_of(order):
    """The first N of the order, None if it has none."""
    for a in range(order.size):
        for b in range(order.size):
            found = _n_with(order, a, b)
            if found is not None:
                return found
    return None


def pieces(order, comparable):
    """A list of the largest sets that are linked by pairs in order, or by pairs that are not."""
    found = []
    for number in range(order.size):
        if not any([number in piece for piece in found]):
            found.append(_linked(order, number, bool(comparable)))
    return found


def looks_phrase(system, looks, order):
    """A phrase of these looks, each once, that has this order on them; None if the order has an N."""
    held = looks_over(system, looks)
    check_one_home(system, held)
    if not isinstance(order, Order) or order.size != len(held):
        raise BadOrder("size")
    if n_of(order) is not None:
        return None
    phrase, numbers = _made(held, order, tuple(range(order.size)))
    return (Ask(system.homes[held[0][0]], phrase), numbers)


def _n_with(order, a, b):
    """The first N that begins with a and b, None if there is none."""
    if a == b or _in_order(order, a, b):
        return None
    for c in order.behind(b):
        for d in order.behind(b):
            if c != d and order.before(a, c) and not _in_order(order, c, d) and not _in_order(order, a, d):
                return (a, b, c, d)
    return None


def _in_order(order, e, f):
    """True if one of the two numbers is ahead of the other one."""
    return order.before(e, f) or order.before(f, e)


def _linked(order, number, comparable):
    """The set of the numbers that are linked with this one."""
    found = (number,)
    while True:
        near = [f for f in range(order.size) if any([_are_near(order, e, f, comparable) for e in found])]
        larger = joined(found, near)
        if larger == found:
            return found
        found = larger


def _are_near(order, e, f, comparable):
    """True if the two different numbers are in order, or if they are not, as comparable asks."""
    return e != f and _in_order(order, e, f) == comparable


def _made(looks, order, numbers):
    """A phrase of the looks with these indexes, of the order on them, and its looks' indexes."""
    if order.size == 1:
        measurer, target = looks[numbers[0]]
        return (Look(measurer, target), numbers)
    # Without an N one of the two kinds of links always leaves more than one piece.
    found = pieces(order, True)
    together = len(found) > 1
    if not together:
        found = _by_order(order, pieces(order, False))
    phrases = []
    indexes = ()
    for piece in found:
        phrase, told = _made(looks, order.kept(piece), tuple([numbers[e] for e in piece]))
        phrases.append(phrase)
        indexes = (*indexes, *told)
    return (beside(*phrases, together=together), indexes)


def _by_order(order, found):
    """The pieces, all of one ahead of all of the next one, in their order."""
    first_members = {len(order.ahead(piece[0])): piece for piece in found}
    return [first_members[many] for many in sorted(list(first_members))]
