"""Point 52: rows that stand unlike, and exchanges of neighbours."""

import unittest
from itertools import combinations

from deeplooks.errors import BadRow
from deeplooks.events import order_of
from deeplooks.exchanges import exchanges, unlike
from deeplooks.orders import Order
from deeplooks.rows import extremes, is_row, rows_of
from tests.fitting import fitting_phrases
from tests.helpers import FOUR, NO_INTEGERS, NO_LISTS, Case, seeded
from tests.test_orders import some_order


class Exchanges(Case):

    def test_unlike(self):
        self.assertEqual(unlike([], ()), 0)
        self.assertEqual(unlike([0], [0]), 0)
        self.assertEqual(unlike((0, 1, 2), [2, 1, 0]), 3)
        self.assertEqual(unlike(list(range(30)), list(reversed(range(30)))), 435)
        chance = seeded(35)
        for _ in range(200):
            size = chance.randrange(9)
            row, other = list(range(size)), list(range(size))
            chance.shuffle(row)
            chance.shuffle(other)
            right = sum((row.index(e) < row.index(f)) != (other.index(e) < other.index(f))
                        for e, f in combinations(range(size), 2))
            self.assertEqual(unlike(row, other), right)

    def test_unlike_refuses(self):
        wrong = [[1], [0, 0], [0, 2], [-1, 0], [0, 1, 3], [0, "1"]] + [[member, 1] for member in NO_INTEGERS]
        for value in NO_LISTS + wrong:
            self.raises(BadRow, -1, unlike, value, [0, 1])
            self.raises(BadRow, -1, unlike, [0, 1], value)
        self.raises(BadRow, -1, unlike, [0, 1], [0, 1, 2])
        self.raises(BadRow, -1, unlike, [0], [])

    def check(self, order, row, other):
        """The exchanges lead from row to other, by rows of the order, and are the fewest."""
        kept = (list(row), list(other))
        found = exchanges(order, row, other)
        self.assertEqual((list(row), list(other)), kept)
        self.assertIs(type(found), tuple)
        self.assertEqual(len(found), unlike(row, other))
        held = list(row)
        for i in found:
            self.assertFalse(order.before(held[i], held[i + 1]))
            held[i], held[i + 1] = held[i + 1], held[i]
            self.assertTrue(is_row(order, held))
        self.assertEqual(held, list(other))

    def test_all_rows_of_small_orders(self):
        chance = seeded(36)
        for size in range(6):
            for share in (0, 0.3, 0.6):
                order = some_order(chance, size, share)
                rows = list(rows_of(order))
                for row in rows[:24]:
                    for other in rows[-24:]:
                        self.check(order, row, list(other))

    def test_from_one_extreme_to_the_other(self):
        for phrase in fitting_phrases(37, 150):
            order = order_of(FOUR, phrase)
            first, second = extremes(FOUR, phrase)
            self.check(order, first, second)
            self.check(order, second, first)
            pairs = order.size * (order.size - 1) // 2
            self.assertEqual(unlike(first, second), pairs - order.pairs_many)

    def test_large_rows(self):
        row = list(range(16))
        self.check(Order(16, []), row, list(reversed(row)))
        self.assertEqual(exchanges(Order(16, []), row, row), ())

    def test_refused(self):
        order = Order(3, [(0, 2)])
        wrong = [[2, 0, 1], [0, 1], [0, 1, 2, 3], [0, 1, 1], [0, 1, "2"]] + [[0, member, 2] for member in NO_INTEGERS]
        for value in NO_LISTS + wrong:
            self.raises(BadRow, 0, exchanges, order, value, value)
            self.raises(BadRow, 1, exchanges, order, [0, 1, 2], value)


if __name__ == "__main__":
    unittest.main()
