"""Points 156 and 157: what feeds what, best orders, the phrases of best orders."""

import unittest
from itertools import permutations

from deeplooks.errors import BadOrder, BadSet
from deeplooks.events import look_order
from deeplooks.feeding import best_phrase, feeding_order, feeding_pairs, feeding_ring, is_best_order, spoiler
from deeplooks.lots import least_open, lot_open
from deeplooks.orders import Order
from deeplooks.rows import rows_of
from deeplooks.selfkept import greatest_kept, least_kept_lots
from deeplooks.series import n_of
from deeplooks.strength import shuts
from deeplooks.systems import System
from tests.asked import clean_for_good, cleaned, single_looks, wrong_looks
from tests.helpers import NO_LISTS, ODD, Case, seeded
from tests.slowopen import all_lots, looks_of
from tests.slowsieve import one_place

# The targets 3, 4 and 5 feed one another in a ring.
RING = (System(1, [0] * 6, [[5], [3], [4], [], [], []], [0]), [(0, 3), (1, 4), (2, 5)])
# 4 feeds 6, 5 feeds 6 and 7: an N.
N = (System(1, [0] * 8, [[], [], [4, 5], [5], [], [], [], []], [0]), [(0, 4), (1, 5), (2, 6), (3, 7)])


def feeds(system, looks):
    """All pairs of indexes by point 156."""
    found = []
    for i, (a_x, x) in enumerate(looks):
        for j, (a_b, b) in enumerate(looks):
            if x in system.needs[a_b] and b not in system.needs[a_b] and not {x, b} & set(system.needs[a_x]):
                found.append((i, j))
    return found


def is_best(system, looks, order):
    """True if each row of the order shuts out all that some row of the looks shuts out, by trying every lot."""
    rows = [[looks[i] for i in row] for row in rows_of(order)]
    for levels in all_lots(system.many):
        best = clean_for_good(system, levels, looks)
        if any(cleaned(system, levels, row)[-1] != best for row in rows):
            return False
    return True


def has_ring(pairs, count):
    """True if no row of so many indexes holds all of the pairs."""
    return not any(all(row.index(i) < row.index(j) for i, j in pairs) for row in permutations(range(count)))


def some_order(chance, count):
    """An order on so many numbers."""
    numbers = chance.sample(range(count), count)
    pairs = [(a, b) for k, a in enumerate(numbers) for b in numbers[k + 1:] if chance.random() < chance.choice([0.2, 0.6, 1])]
    return Order(count, pairs)


def dense(chance, many):
    """A system in which parts need many others."""
    return System(1, [0] * many, [[p for p in range(many) if chance.random() < 0.4] for _ in range(many)], [0])


class Feeding(Case):

    def test_pairs_rings_and_orders(self):
        chance = seeded(350)
        told = {}
        for _ in range(500):
            many = chance.randrange(2, 9)
            looks = single_looks(chance, many, chance.randrange(1, min(many, 6) + 1))
            system = chance.choice([one_place, dense])(chance, many)
            pairs = feeds(system, looks)
            self.assertEqual(feeding_pairs(system, [list(look) for look in looks]), tuple(pairs))
            ring = feeding_ring(system, looks)
            right = has_ring(pairs, len(looks))
            told[right] = told.get(right, 0) + 1
            self.assertEqual(ring is not None, right)
            if right:
                self.assertIs(type(ring), tuple)
                self.assertEqual(len(set(ring)), len(ring))
                for k, i in enumerate(ring):
                    self.assertIn((i, ring[(k + 1) % len(ring)]), pairs)
                self.raises(BadOrder, "ring", feeding_order, system, looks)
            else:
                self.assertEqual(feeding_order(system, looks), Order(len(looks), pairs))
        self.assertGreater(min(told.values()), 4)

    def test_a_ring_and_an_n(self):
        self.assertEqual(sorted(feeding_ring(*RING)), [0, 1, 2])
        self.assertEqual(feeding_pairs(*RING), ((0, 1), (1, 2), (2, 0)))
        self.assertIsNone(best_phrase(*RING))
        self.raises(BadOrder, "ring", feeding_order, *RING)
        self.assertIsNone(feeding_ring(*N))
        self.assertEqual(feeding_pairs(*N), ((0, 2), (1, 2), (1, 3)))
        self.assertIsNotNone(n_of(feeding_order(*N)))
        self.assertIsNone(best_phrase(*N))
        self.assertIs(is_best_order(*N, feeding_order(*N)), True)

    def test_eight_looks_in_a_ring(self):
        # Eight targets cannot be fed in a ring by measurers that are not among them: each measurer needs itself.
        system = System(1, [0] * 8, [[(k + 2) % 8] for k in range(8)], [0])
        looks = [(k, (k + 3) % 8) for k in range(8)]
        self.assertEqual(feeding_pairs(system, looks), tuple(feeds(system, looks)))
        self.assertEqual(feeding_ring(system, looks) is None, not has_ring(feeds(system, looks), 8))

    def test_best_orders_by_trying_every_lot(self):
        chance = seeded(351)
        told = {}
        for _ in range(200):
            many = chance.randrange(3, 6)
            looks = single_looks(chance, many, chance.randrange(2, many + 1))
            system = one_place(chance, many)
            order = some_order(chance, len(looks))
            if feeds(system, looks) and chance.random() < 0.4:
                # The other way round.
                order = Order(len(looks), [feeds(system, looks)[0][::-1]])
            elif feeding_ring(system, looks) is None and chance.random() < 0.5:
                # An order that holds all feeding pairs.
                order = feeding_order(system, looks)
            right = is_best(system, looks, order)
            told[right] = told.get(right, 0) + 1
            self.assertIs(is_best_order(system, looks, order), right)
            self.check_spoiler(system, looks, order, right)
        self.assertGreater(min(told.values()), 20)

    def check_spoiler(self, system, looks, order, right):
        """The first pair that is not held, and its lot."""
        found = spoiler(system, looks, order)
        self.assertEqual(found is None, right)
        if right:
            return
        self.assertIs(type(found), tuple)
        i, j, levels = found
        wrong = [(e, f) for e, f in feeds(system, looks) if not order.before(e, f)]
        self.assertEqual((i, j), wrong[0])
        x, b = looks[i][1], looks[j][1]
        self.assertEqual(levels, tuple(1 if part in (x, b) else 0 for part in range(system.many)))
        self.assertIs(shuts(system, [looks[i], looks[j]], levels, b), True)
        worse = [row for row in rows_of(order) if row.index(j) < row.index(i)]
        self.assertTrue(worse)
        for row in worse:
            self.assertIs(shuts(system, [looks[k] for k in row], levels, b), False)

    def test_there_is_a_best_order_exactly_without_a_ring(self):
        chance = seeded(352)
        told = {}
        for _ in range(60):
            many = chance.randrange(3, 6)
            system, looks = dense(chance, many), single_looks(chance, many, 3)
            best = any(is_best(system, looks, Order.of_row(list(row))) for row in permutations(range(3)))
            self.assertEqual(best, feeding_ring(system, looks) is None)
            told[best] = told.get(best, 0) + 1
        system, looks = RING
        self.assertFalse(any(is_best(system, looks, Order.of_row(list(row))) for row in permutations(range(3))))
        self.assertGreater(told[True], 20)

    def test_best_phrases(self):
        chance = seeded(353)
        told = {}
        for _ in range(150):
            many = chance.randrange(2, 9)
            system, looks = one_place(chance, many), single_looks(chance, many, chance.randrange(1, min(many, 5) + 1))
            found = best_phrase(system, looks)
            right = has_ring(feeds(system, looks), len(looks)) or n_of(Order(len(looks), feeds(system, looks))) is not None
            self.assertEqual(found is None, right)
            told[right] = told.get(right, 0) + 1
            if not right:
                phrase, numbers = found
                self.assertEqual([looks[index] for index in numbers], looks_of(phrase))
                order, wanted = look_order(system, phrase), feeding_order(system, looks)
                for e in range(len(looks)):
                    for f in range(len(looks)):
                        self.assertIs(order.before(e, f), wanted.before(numbers[e], numbers[f]))
        self.assertGreater(told[False], 50)

    def test_what_best_phrases_are_open_for(self):
        chance = seeded(354)
        for _ in range(25):
            many = chance.randrange(2, 5)
            system, looks = dense(chance, many), single_looks(chance, many, chance.randrange(1, many + 1))
            found = best_phrase(system, looks)
            for part in range(many) if found else ():
                for levels in all_lots(many):
                    opened = lot_open(system, found[0], (part, None), levels)
                    self.assertIs(opened, part in greatest_kept(system, looks, levels))
                self.assertEqual(least_open(system, found[0], (part, None)), least_kept_lots(system, looks, part))

    def test_errors_in_their_order(self):
        system, looks = System(1, [0] * 3, [[]] * 3, [0]), [(0, 1), (1, 2)]
        order = Order(2, [])
        for value in wrong_looks(3) + [[(0, 1), (2, 1)], [(0, 1), (0, 1)]]:
            for call in (feeding_pairs, feeding_ring, feeding_order, best_phrase):
                self.raises(BadSet, "looks", call, system, value)
            self.raises(BadSet, "looks", is_best_order, system, value, None)
            self.raises(BadSet, "looks", spoiler, system, value, None)
        for value in NO_LISTS + [Order(1, []), Order(3, []), ODD, [0, 1]]:
            self.raises(BadOrder, "size", is_best_order, system, looks, value)
            self.raises(BadOrder, "size", spoiler, system, looks, value)
        two = System(2, [0, 1, 0], [[]] * 3, [0, 1])
        self.raises(BadSet, "looks", best_phrase, two, looks)
        self.assertEqual(feeding_pairs(two, looks), ((0, 1),))
        apart = System(2, [0, 0, 1, 1, 1, 1], [[5], [3], [4], [], [], []], [0, 2])
        self.assertEqual(feeding_pairs(apart, RING[1]), ((0, 1), (1, 2), (2, 0)))
        self.raises(BadSet, "looks", best_phrase, apart, RING[1])
        self.assertIsNone(spoiler(system, [[0, 1], [0, 2]], order))
        given = [[0, 1], [1, 2]]
        best_phrase(system, given)
        self.assertEqual(given, [[0, 1], [1, 2]])


if __name__ == "__main__":
    unittest.main()
