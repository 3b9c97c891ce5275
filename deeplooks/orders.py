"""Orders: which numbers are ahead of which."""

from deeplooks.errors import BadOrder, BadRow
from deeplooks.sets import inside, is_list, is_number, is_pair, is_set, set_of

MOST_NUMBERS = 16


class Order:
    """A closed order on the numbers 0 .. size - 1, made of pairs that tell some of it."""

    def __init__(self, size, pairs):
        if not is_number(size, 0, MOST_NUMBERS):
            raise BadOrder("size")
        if not _are_pairs(pairs, size):
            raise BadOrder("pairs")
        masks = _closed(size, pairs)
        if any([mask >> number & 1 for number, mask in enumerate(masks)]):
            raise BadOrder("ring")
        numbers = range(size)
        self.size = size
        self.pairs = tuple([(e, f) for e in numbers for f in numbers if masks[e] >> f & 1])
        self._behind = [tuple([f for f in numbers if masks[e] >> f & 1]) for e in numbers]
        self._ahead = [tuple([e for e in numbers if masks[e] >> f & 1]) for f in numbers]

    @property
    def pairs_many(self):
        """The number of pairs of the closed order."""
        return len(self.pairs)

    @classmethod
    def of_row(cls, row):
        """The order in which any two numbers are as they stand in the row."""
        if not is_list(row) or len(row) > MOST_NUMBERS or not is_set(row, len(row)):
            raise BadRow(-1)
        return cls(len(row), list(zip(row, row[1:])))

    def before(self, e, f):
        """True if e is ahead of f."""
        self._check_number(e)
        self._check_number(f)
        return f in self._behind[e]

    def ahead(self, e):
        """The set of the numbers ahead of e."""
        self._check_number(e)
        return self._ahead[e]

    def behind(self, e):
        """The set of the numbers behind e."""
        self._check_number(e)
        return self._behind[e]

    def ready(self, done):
        """The set of the numbers outside done of which all that is ahead is in it."""
        held = set_of(done, self.size, "done")
        return tuple([e for e in range(self.size) if e not in held and inside(self._ahead[e], held)])

    def is_beginning(self, done):
        """True if the set done holds all that is ahead of its members."""
        held = set_of(done, self.size, "done")
        return all([inside(self._ahead[e], held) for e in held])

    def kept(self, members):
        """The order on these members, renumbered by size."""
        held = set_of(members, self.size, "members")
        pairs = [(held.index(e), held.index(f)) for e, f in self.pairs if e in held and f in held]
        return Order(len(held), pairs)

    def holds(self, other):
        """True if the other order has the same size and no pair that this one lacks."""
        return self.size == other.size and inside(other.pairs, self.pairs)

    def _check_number(self, value):
        """BadRow(value) if it is no number of the order."""
        if not is_number(value, 0, self.size - 1):
            raise BadRow(value)

    def __eq__(self, other):
        return isinstance(other, Order) and self.size == other.size and self.pairs == other.pairs


def _are_pairs(value, size):
    """True if value is a list or tuple of pairs of two different numbers below size."""
    if not is_list(value):
        return False
    return all([is_pair(pair, size) and pair[0] != pair[1] for pair in value])


def _closed(size, pairs):
    """A list: for each number, as a mask, those to which pairs lead from it."""
    masks = [0] * size
    for e, f in pairs:
        masks[e] = masks[e] | 1 << f
    for middle in range(size):
        for number in range(size):
            if masks[number] >> middle & 1:
                masks[number] = masks[number] | masks[middle]
    return masks
