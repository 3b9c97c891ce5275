"""Points 48 to 50: orders, beginnings, what is ready, orders kept on members."""

import unittest

from deeplooks.errors import BadOrder, BadRow, BadSet
from deeplooks.orders import Order
from tests.helpers import NO_INTEGERS, NO_LISTS, ODD, Case, all_subsets, seeded


def some_order(chance, size, share=0.3):
    """An order of this size, with numbers in any row."""
    row = list(range(size))
    chance.shuffle(row)
    pairs = [(row[i], row[j]) for i in range(size) for j in range(i + 1, size) if chance.random() < share]
    return Order(size, pairs)


def slow_closed(size, pairs):
    """The closure of the pairs."""
    found = {tuple(pair) for pair in pairs}
    while True:
        more = {(e, g) for e, f in found for h, g in found if f == h} | found
        if more == found:
            return found
        found = more


def all_pair_lists(size):
    """All sets of pairs of different numbers."""
    pairs = [(e, f) for e in range(size) for f in range(size) if e != f]
    return [[pairs[k] for k in chosen] for chosen in all_subsets(range(len(pairs)))]


class Making(Case):

    def test_closed(self):
        order = Order(4, [[2, 1], (1, 3), (2, 1)])
        self.assertEqual(order.size, 4)
        self.assertEqual(order.pairs, ((1, 3), (2, 1), (2, 3)))
        self.assertEqual(order.pairs_many, 3)
        self.assertEqual(Order(0, []).pairs, ())
        self.assertEqual(Order(0, ()).pairs_many, 0)

    def test_whole_small_orders(self):
        for pairs in all_pair_lists(3):
            closed = slow_closed(3, pairs)
            if any(e == f for e, f in closed):
                self.raises(BadOrder, "ring", Order, 3, pairs)
            else:
                order = Order(3, pairs)
                self.assertEqual(order.pairs, tuple(sorted(closed)))
                self.assertTrue(order == Order(3, sorted(closed)))

    def test_large_orders(self):
        chance = seeded(26)
        for size in (12, 13, 16):
            order = some_order(chance, size, 0.15)
            self.assertEqual(set(order.pairs), slow_closed(size, order.pairs))
        chain = Order(16, [(k, k + 1) for k in range(15)])
        self.assertEqual(chain.pairs_many, 120)
        self.raises(BadOrder, "ring", Order, 16, [(k, (k + 1) % 16) for k in range(16)])

    def test_refused(self):
        for value in NO_INTEGERS + [-1, 17]:
            self.raises(BadOrder, "size", Order, value, None)
        wrong = [[0], [(0,)], [(0, 1, 2)], [(0, 0)], [(0, 3)], [(-1, 0)], ["01"], [{0, 1}], [{0: 1, 1: 0}], [None]]
        wrong = wrong + [[(0, member)] for member in NO_INTEGERS] + [[(member, 1)] for member in NO_INTEGERS]
        for value in NO_LISTS + wrong:
            self.raises(BadOrder, "pairs", Order, 3, value)
        self.raises(BadOrder, "pairs", Order, 0, [(0, 1)])
        self.raises(BadOrder, "pairs", Order, 3, [(0, 1), (1, 0), (2, 2)])
        self.raises(BadOrder, "ring", Order, 3, [(0, 1), (1, 2), (2, 0)])
        self.raises(BadOrder, "ring", Order, 2, [(0, 1), (1, 0)])

    def test_copies_what_is_passed(self):
        pairs = [[0, 1]]
        order = Order(3, pairs)
        self.assertEqual(pairs, [[0, 1]])
        pairs[0][1] = 2
        pairs.append([2, 0])
        self.assertEqual(order, Order(3, [(0, 1)]))

    def test_equal(self):
        order = Order(3, [(0, 1), (1, 2)])
        self.assertTrue(order == Order(3, [(1, 2), (0, 2), (0, 1)]))
        for other in (Order(4, [(0, 1), (1, 2)]), Order(3, [(0, 1)]), Order(3, []), None, 3, order.pairs):
            self.assertIs(order == other, False)

    def test_of_row(self):
        self.assertEqual(Order.of_row([2, 0, 1]), Order(3, [(2, 0), (0, 1)]))
        self.assertEqual(Order.of_row(()), Order(0, []))
        self.assertEqual(Order.of_row([0]), Order(1, []))
        self.assertEqual(Order.of_row(list(range(16))).pairs_many, 120)
        wrong = [[1], [0, 0], [0, 2], [-1, 0], [0, "1"], list(range(17))] + [[member] for member in NO_INTEGERS]
        for value in NO_LISTS + wrong:
            self.raises(BadRow, -1, Order.of_row, value)


class Asking(Case):

    order = Order(4, [(2, 1), (1, 3)])

    def test_before(self):
        for e in range(4):
            for f in range(4):
                self.assertIs(self.order.before(e, f), (e, f) in self.order.pairs)

    def test_ahead_and_behind(self):
        self.assertEqual([self.order.ahead(e) for e in range(4)], [(), (2,), (), (1, 2)])
        self.assertEqual([self.order.behind(e) for e in range(4)], [(), (3,), (1, 3), ()])

    def test_no_numbers(self):
        for value in NO_INTEGERS + [-1, 4]:
            self.raises(BadRow, value, self.order.before, value, ODD)
            self.raises(BadRow, value, self.order.before, 0, value)
            self.raises(BadRow, value, self.order.ahead, value)
            self.raises(BadRow, value, self.order.behind, value)

    def test_ready(self):
        chance = seeded(27)
        for size in range(6):
            order = some_order(chance, size)
            for done in all_subsets(range(size)):
                right = tuple(e for e in range(size) if e not in done
                              and all(d in done for d in range(size) if (d, e) in order.pairs))
                self.assertEqual(order.ready(done), right)
                self.assertEqual(order.ready(list(reversed(done))), right)
                begins = all(d in done for d, e in order.pairs if e in done)
                self.assertIs(order.is_beginning(done), begins)
        # The set need not be a beginning.
        self.assertEqual(self.order.ready([1]), (0, 2))
        for value in NO_LISTS + [[4], [-1], [0, 0], [True], ["0"]]:
            self.raises(BadSet, "done", self.order.ready, value)
            self.raises(BadSet, "done", self.order.is_beginning, value)

    def test_kept(self):
        self.assertEqual(self.order.kept([3, 2, 0]), Order(3, [(1, 2)]))
        self.assertEqual(self.order.kept([]), Order(0, []))
        self.assertEqual(self.order.kept((0, 1, 2, 3)), self.order)
        for value in NO_LISTS + [[4], [-1], [0, 0], [True], ["0"]]:
            self.raises(BadSet, "members", self.order.kept, value)
        chance = seeded(28)
        for _ in range(40):
            order = some_order(chance, 6)
            members = sorted(chance.sample(range(6), chance.randrange(7)))
            kept = order.kept(members)
            right = [(i, j) for i, e in enumerate(members) for j, f in enumerate(members) if order.before(e, f)]
            self.assertEqual((kept.size, kept.pairs), (len(members), tuple(right)))

    def test_holds(self):
        self.assertIs(self.order.holds(self.order), True)
        self.assertIs(self.order.holds(Order(4, [(2, 3)])), True)
        self.assertIs(Order(4, [(2, 3)]).holds(self.order), False)
        self.assertIs(self.order.holds(Order(3, [])), False)
        self.assertIs(Order(3, []).holds(Order(4, [])), False)


if __name__ == "__main__":
    unittest.main()
