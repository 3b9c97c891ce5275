"""Points 49, 51 and 53: rows, beginnings, their numbers, extremes."""

import unittest
from itertools import islice, permutations
from math import factorial

from deeplooks.errors import TooMany
from deeplooks.events import order_of
from deeplooks.orders import Order
from deeplooks.phrases import Ask, Branch, Look, Sign, Then, beside, in_turn
from deeplooks.phrasetexts import phrase_from
from deeplooks.rows import (beginning_count, beginnings, count_rows, extremes, is_row, row_count, rows_of)
from tests.fitting import fitting_phrases, mark_phrases
from tests.helpers import FOUR, NO_INTEGERS, NO_LISTS, ODD, Case, all_subsets, seeded
from tests.test_orders import some_order


def slow_rows(order):
    """All rows, ascending, straight from point 49."""
    return [row for row in permutations(range(order.size))
            if all(row.index(e) < row.index(f) for e, f in order.pairs)]


class Rows(Case):

    def check(self, order):
        """Rows and beginnings of a small order."""
        rows = list(rows_of(order))
        self.assertEqual(rows, slow_rows(order))
        for row in rows:
            self.assertIs(type(row), tuple)
        self.assertEqual(count_rows(order), len(rows))
        begun = {tuple(sorted(row[:k])) for row in rows for k in range(order.size + 1)}
        found = beginnings(order)
        self.assertEqual(found, [held for held in all_subsets(range(order.size)) if held in begun])
        for held in all_subsets(range(order.size)):
            self.assertEqual(order.is_beginning(held), held in begun)

    def test_small_orders(self):
        chance = seeded(31)
        for size in range(7):
            for share in (0, 0.2, 0.5, 1):
                for _ in range(4):
                    self.check(some_order(chance, size, share))

    def test_size_nothing(self):
        order = Order(0, [])
        self.assertEqual(list(rows_of(order)), [()])
        self.assertEqual(beginnings(order), [()])
        self.assertEqual(count_rows(order), 1)
        self.assertTrue(is_row(order, []))

    def test_is_row(self):
        order = Order(3, [(0, 2)])
        for row in permutations(range(3)):
            self.assertIs(is_row(order, row), row.index(0) < row.index(2))
            self.assertIs(is_row(order, list(row)), row.index(0) < row.index(2))
        wrong = [[0, 1], [0, 1, 2, 3], [0, 1, 1], [1, 2, 3], [-1, 0, 1], [0, 1, [2]], [0, 1, ODD]]
        for value in NO_LISTS + wrong + [[0, 1, member] for member in NO_INTEGERS]:
            self.assertIs(is_row(order, value), False)

    def test_twelve_and_thirteen(self):
        free = Order(12, [])
        self.assertEqual(count_rows(free), 479001600)
        self.assertEqual(len(beginnings(free)), 4096)
        first = list(islice(rows_of(free), 3))
        self.assertEqual(first, [tuple(range(12)), (*range(10), 11, 10), (*range(9), 10, 9, 11)])
        chain = Order.of_row(list(reversed(range(12))))
        self.assertEqual(list(rows_of(chain)), [tuple(reversed(range(12)))])
        for size in (13, 16):
            order = Order.of_row(list(range(size)))
            self.raises(TooMany, "size", beginnings, order)
            self.raises(TooMany, "size", count_rows, order)
            # The error comes when the first item is asked for, not before.
            rows = rows_of(order)
            self.raises(TooMany, "size", next, rows)

    def test_twelve_with_pairs(self):
        order = Order(12, [(k, k + 1) for k in range(0, 12, 2)])
        self.assertEqual(count_rows(order), factorial(12) // 2 ** 6)
        pairs = [(e, f) for e in range(6) for f in range(6, 12)]
        self.assertEqual(count_rows(Order(12, pairs)), 720 * 720)

    def test_lists_are_new(self):
        order = Order(2, [])
        beginnings(order).clear()
        self.assertEqual(beginnings(order), [(), (0,), (1,), (0, 1)])


class Counts(Case):

    def test_against_the_order(self):
        told = list(fitting_phrases(32, 300)) + list(mark_phrases())
        for phrase in told:
            order = order_of(FOUR, phrase)
            self.assertEqual(row_count(phrase), count_rows(order))
            self.assertEqual(beginning_count(phrase), len(beginnings(order)))

    def test_against_the_rows(self):
        for phrase in fitting_phrases(33, 150, 7):
            order = order_of(FOUR, phrase)
            rows = list(rows_of(order))
            self.assertEqual(rows, sorted(set(rows)))
            self.assertEqual(row_count(phrase), len(rows))
            self.assertTrue(all(is_row(order, row) for row in rows))
            begun = {tuple(sorted(row[:k])) for row in rows for k in range(order.size + 1)}
            self.assertEqual(sorted(begun), sorted(beginnings(order)))

    def test_each_kind(self):
        look, sign = Look(0, 1), Sign()
        told = [(look, 1, 2), (sign, 1, 1), (Ask(0, look), 1, 4), (Ask(0, sign), 1, 3), (Then(look, look), 1, 3),
                (Then(sign, sign), 1, 1), (Branch(look, look), 1, 3), (Branch(look, look, together=True), 2, 4),
                (Branch(Ask(0, look), look, together=True), 4, 8), (Branch(sign, look, together=True), 1, 2)]
        for phrase, rows, begun in told:
            self.assertEqual((row_count(phrase), beginning_count(phrase)), (rows, begun))

    def test_exact_however_large(self):
        look = Look(0, 1)
        wide = look
        for _ in range(8):
            wide = Branch(wide, wide, together=True)
        self.assertEqual(row_count(wide), factorial(256))
        self.assertEqual(beginning_count(wide), 2 ** 256)
        thirty = in_turn(*[beside(*[look] * 10)] * 30)
        self.assertEqual(row_count(thirty), factorial(10) ** 30)
        self.assertEqual(beginning_count(thirty), 30 * 1024 - 29)
        # Signs at the judge and looks of nobody at home count as well: any phrase has an order.
        deep = look
        for _ in range(58):
            deep = Ask(0, deep)
        self.assertEqual(row_count(Branch(deep, deep, together=True)), factorial(234) // factorial(117) ** 2)
        self.assertEqual(beginning_count(deep), 118)


class Extremes(Case):

    def test_extremes(self):
        phrase = phrase_from("@0((0>1 +~+ (1>0 -> 0>0)))")
        self.assertEqual(extremes(FOUR, phrase), ((0, 1, 2, 3, 4), (0, 2, 3, 1, 4)))
        self.assertEqual(extremes(FOUR, phrase_from("@0(!)")), ((0, 1), (0, 1)))

    def test_against_the_words_of_the_point(self):
        for phrase in list(fitting_phrases(34, 300)) + list(mark_phrases()):
            order = order_of(FOUR, phrase)
            first, second = extremes(FOUR, phrase)
            self.assertTrue(is_row(order, first) and is_row(order, second))
            self.assertEqual(first, tuple(range(order.size)))
            for e in range(order.size):
                for f in range(e + 1, order.size):
                    unlike = second.index(f) < second.index(e)
                    self.assertEqual(unlike, not order.before(e, f))


if __name__ == "__main__":
    unittest.main()
