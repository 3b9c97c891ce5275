"""Point 54: the N, linked numbers, and phrases of looks by branches alone."""

import unittest
from itertools import permutations

from deeplooks.checks import check_phrase
from deeplooks.errors import BadOrder, BadSet
from deeplooks.events import look_order
from deeplooks.orders import Order
from deeplooks.phrases import Ask, Branch, Look, beside
from deeplooks.series import looks_phrase, n_of, pieces
from deeplooks.systems import System
from tests.helpers import NO_INTEGERS, NO_LISTS, ODD, Case, seeded
from tests.test_orders import all_pair_lists, some_order

ONE = System(1, [0] * 8, [[]] * 8, [0])
TWO = System(2, [0, 0, 1], [[], [], []], [0, 2])


def slow_n(order):
    """The first N, straight from the words of the point."""
    def linked(e, f):
        return order.before(e, f) or order.before(f, e)
    for a, b, c, d in permutations(range(order.size), 4):
        if order.before(a, c) and order.before(b, c) and order.before(b, d):
            if not linked(a, b) and not linked(a, d) and not linked(c, d):
                return (a, b, c, d)
    return None


def slow_pieces(order, comparable):
    """The pieces, by joining what is linked."""
    piece = {e: {e} for e in range(order.size)}
    for e in range(order.size):
        for f in range(order.size):
            if e != f and (order.before(e, f) or order.before(f, e)) == comparable:
                both = piece[e] | piece[f]
                for g in both:
                    piece[g] = both
    return sorted({tuple(sorted(held)) for held in piece.values()})


def branch_orders(size):
    """All orders on so many looks that phrases of branches alone make, as sets of pairs."""
    looks = [Look(0, k) for k in range(size)]
    return {tuple(relabelled(phrase)) for phrase in branch_phrases(looks)}


def branch_phrases(looks):
    """All phrases of these looks, each once, made by branches with one kind of marks."""
    if len(looks) == 1:
        yield looks[0]
    for k in range(1, 2 ** len(looks) - 1):
        left = [look for i, look in enumerate(looks) if k >> i & 1]
        right = [look for i, look in enumerate(looks) if not k >> i & 1]
        for one in branch_phrases(left):
            for other in branch_phrases(right):
                yield beside(one, other)
                yield beside(one, other, together=False)


def relabelled(phrase):
    """The pairs of the order of the phrase, each look told by its target."""
    targets = [look.target for look in phrase.leaves()]
    order = look_order(ONE, Ask(0, phrase))
    return sorted((targets[e], targets[f]) for e, f in order.pairs)


class Pieces(Case):

    def check(self, order):
        """The N and the pieces of an order."""
        self.assertEqual(n_of(order), slow_n(order))
        for comparable in (True, False):
            found = pieces(order, comparable)
            self.assertIs(type(found), list)
            self.assertEqual(found, slow_pieces(order, comparable))
        if n_of(order) is None and order.size > 1:
            self.assertTrue(len(pieces(order, True)) > 1 or len(pieces(order, False)) > 1)

    def test_orders(self):
        chance = seeded(38)
        for size in range(8):
            for share in (0, 0.1, 0.3, 0.6, 1):
                for _ in range(6):
                    self.check(some_order(chance, size, share))

    def test_edges(self):
        self.assertEqual(pieces(Order(0, []), True), [])
        self.assertEqual(pieces(Order(0, []), False), [])
        self.assertIsNone(n_of(Order(0, [])))
        self.assertEqual(pieces(Order(3, [(0, 2)]), 1), [(0, 2), (1,)])
        self.assertEqual(pieces(Order(3, [(0, 2)]), 0), [(0, 1, 2)])
        self.assertEqual(pieces(Order(3, [(0, 2), (0, 1)]), ""), [(0,), (1, 2)])
        self.assertEqual(n_of(Order(16, [(15, 13), (14, 13), (14, 12)])), (15, 14, 13, 12))
        self.assertIsNone(n_of(Order(4, [(0, 2), (1, 2), (1, 3), (0, 3)])))

    def test_sixteen(self):
        self.check(some_order(seeded(39), 16, 0.05))


class LooksPhrase(Case):

    def check(self, system, looks, order):
        """The phrase has the looks, each once, and the order."""
        found = looks_phrase(system, looks, order)
        if slow_n(order) is not None:
            self.assertIsNone(found)
            return
        self.assertIs(type(found), tuple)
        phrase, numbers = found
        self.assertIsNone(check_phrase(system, phrase))
        self.assertIs(type(phrase), Ask)
        self.assertEqual(phrase.place, system.homes[looks[0][0]])
        self.assertIs(type(numbers), tuple)
        self.assertEqual(sorted(numbers), list(range(len(looks))))
        leaves = phrase.leaves()
        self.assertEqual([(leaf.measurer, leaf.target) for leaf in leaves], [tuple(looks[i]) for i in numbers])
        self.only_branches(phrase.asked)
        made = look_order(system, phrase)
        for e in range(len(looks)):
            for f in range(len(looks)):
                self.assertEqual(made.before(e, f), order.before(numbers[e], numbers[f]))

    def only_branches(self, phrase):
        """The phrase has branches that hand the evidence on, and looks, alone."""
        if not isinstance(phrase, Look):
            self.assertIs(type(phrase), Branch)
            self.assertTrue(phrase.keep_left and phrase.keep_right)
            for part in phrase.parts_of():
                self.only_branches(part)

    def test_whole_small_orders(self):
        made = {size: branch_orders(size) for size in (1, 2, 3, 4)}
        for size in (1, 2, 3):
            self.go_through(size, [Order(size, pairs) for pairs in all_pair_lists(size) if ringless(size, pairs)],
                            made[size])
        chance = seeded(40)
        self.go_through(4, [some_order(chance, 4, share) for share in (0, 0.3, 0.5, 0.7) for _ in range(60)], made[4])

    def go_through(self, size, orders, made):
        """An order has a phrase exactly if some phrase of branches makes it."""
        looks = [(0, k) for k in range(size)]
        for order in orders:
            self.check(ONE, looks, order)
            self.assertEqual(looks_phrase(ONE, looks, order) is not None, order.pairs in made)

    def test_larger_orders(self):
        chance = seeded(41)
        for size in (5, 6, 7, 8):
            looks = [[chance.randrange(8), chance.randrange(8)] for _ in range(size)]
            for share in (0, 0.2, 0.5, 0.8, 1):
                for _ in range(8):
                    self.check(ONE, looks, some_order(chance, size, share))

    def test_orders_without_n(self):
        chance = seeded(42)
        for _ in range(100):
            size = chance.randrange(1, 9)
            phrases = [Look(k, k) for k in range(size)]
            while len(phrases) > 1:
                chance.shuffle(phrases)
                phrases.append(beside(phrases.pop(), phrases.pop(), together=chance.random() < 0.5))
            order = Order(size, relabelled(phrases[0]))
            self.check(ONE, tuple((k, 0) for k in range(size)), order)
            self.assertIsNotNone(looks_phrase(ONE, [(0, 0)] * size, order))

    def test_the_same_look_several_times(self):
        self.check(TWO, [(2, 2), (2, 2), [2, 0]], Order(3, [(1, 0)]))

    def test_targets_may_be_at_home_elsewhere(self):
        self.check(TWO, [(2, 0), (2, 2)], Order(2, [(1, 0)]))
        self.check(TWO, [(0, 2), (1, 0), (0, 1)], Order(3, [(1, 0), (1, 2)]))
        self.assertEqual(looks_phrase(TWO, [(2, 0)], Order(1, [])), (Ask(1, Look(2, 0)), (0,)))

    def test_lists_are_new(self):
        order = Order(3, [(0, 2)])
        pieces(order, True).clear()
        self.assertEqual(pieces(order, True), [(0, 2), (1,)])
        looks = [[0, 1], [1, 0]]
        found = looks_phrase(ONE, looks, Order(2, []))
        looks[0].clear()
        self.assertEqual(found, looks_phrase(ONE, [(0, 1), (1, 0)], Order(2, [])))

    def test_refused(self):
        wrong = [[], [(0, 1)] * 9, [(0, 3)], [(3, 0)], [(0, -1)], [(0,)], [(0, 1, 2)], [0], ["01"], [(0, 1), (2, 0)]]
        wrong = wrong + [[(0, member)] for member in NO_INTEGERS] + [[{0, 1}]]
        for value in NO_LISTS + wrong:
            self.raises(BadSet, "looks", looks_phrase, TWO, value, ODD)
        for value in (None, 2, [], ODD, Order(1, []), Order(3, [])):
            self.raises(BadOrder, "size", looks_phrase, TWO, [(0, 1), (1, 0)], value)
        self.assertEqual(len(looks_phrase(ONE, [(0, 1)] * 8, Order(8, []))[1]), 8)


def ringless(size, pairs):
    """True if the pairs make an order."""
    try:
        Order(size, pairs)
    except BadOrder:
        return False
    return True


if __name__ == "__main__":
    unittest.main()
