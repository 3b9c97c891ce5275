"""Point 171: rows that are alike, spare looks, rows made short, pairs of rows."""

import unittest

from deeplooks.alike import alike, shorten, spare, strength_pairs
from deeplooks.errors import BadLine, BadNumber, TooMany
from deeplooks.everywhere import strong_everywhere
from tests.asked import cleaned, wrong_rows
from tests.helpers import NO_INTEGERS, NO_LISTS, Case, seeded
from tests.slowopen import all_lots, all_needs
from tests.slowsieve import one_place
from tests.test_everywhere import related, some_row


def less(row, k):
    """The row without look k."""
    return list(row[:k]) + list(row[k + 1:])


class Alike(Case):

    def test_drawn_rows(self):
        chance = seeded(410)
        told = {}
        for _ in range(200):
            many = chance.randrange(2, 9)
            other = some_row(chance, many, 6)
            row = related(chance, many, other)
            part = other[-1][1] if other else 0
            right = strong_everywhere(many, row, other, part) and strong_everywhere(many, other, row, part)
            told[right] = told.get(right, 0) + 1
            self.assertIs(alike(many, row, other, part), right)
            self.assertIs(alike(many, other, row, part), right)
            for _ in range(10 if right else 0):
                system, levels = one_place(chance, many), [chance.choice([0, 1, 1, 2]) for _ in range(many)]
                self.assertEqual(part in cleaned(system, levels, row)[-1], part in cleaned(system, levels, other)[-1])
        self.assertGreater(min(told.values()), 30)

    def test_all_systems_of_three_parts(self):
        chance = seeded(411)
        told = {}
        systems = [(system, levels) for system in all_needs(3) for levels in all_lots(3)]
        for _ in range(60):
            other = some_row(chance, 3, 4)
            row = related(chance, 3, other)
            ends = [(cleaned(system, levels, row)[-1], cleaned(system, levels, other)[-1]) for system, levels in systems]
            for part in range(3):
                right = all((part in one) == (part in two) for one, two in ends)
                told[right] = told.get(right, 0) + 1
                self.assertIs(alike(3, row, other, part), right)
        self.assertGreater(min(told.values()), 15)

    def test_spare_looks(self):
        chance = seeded(412)
        sizes = {}
        for _ in range(250):
            many = chance.randrange(2, 9)
            row = some_row(chance, many, 8)
            part = row[-1][1] if row else 0
            right = [k for k in range(len(row)) if alike(many, less(row, k), row, part)]
            found = spare(many, row, part)
            self.is_tuple_set(found)
            self.assertEqual(found, tuple(right))
            for k in range(len(row)):
                self.assertIs(k in found, strong_everywhere(many, less(row, k), row, part))
            sizes[len(found)] = True
            held = [tuple(look) for look in row]
            while spare(many, held, part):
                held = less(held, spare(many, held, part)[-1])
            short = shorten(many, row, part)
            self.assertEqual(short, tuple(held))
            self.assertIs(alike(many, short, row, part), True)
            self.assertEqual(spare(many, short, part), ())
        self.assertGreater(len(sizes), 5)
        self.assertEqual([spare(3, (), 0), shorten(3, [], 0)], [(), ()])
        self.assertEqual(shorten(3, [(0, 1), (1, 0)], 2), ())
        self.assertEqual(shorten(4, [[0, 1], [0, 2], [0, 1]], 1), ((0, 1),))

    def test_pairs_of_rows(self):
        chance = seeded(413)
        for _ in range(40):
            many = chance.randrange(2, 7)
            first = some_row(chance, many, 6)
            rows = [related(chance, many, first) for _ in range(chance.randrange(6))]
            part = first[-1][1] if first else 0
            right = [(i, j) for i in range(len(rows)) for j in range(len(rows))
                     if i != j and strong_everywhere(many, rows[i], rows[j], part)]
            found = strength_pairs(many, rows, part)
            self.assertIs(type(found), list)
            self.assertEqual(found, right)

    def test_twenty_rows_and_none(self):
        row = [(0, k) for k in range(1, 8)] + [(1, 0)]
        self.assertEqual(len(strength_pairs(8, [row] * 20, 7)), 380)
        self.assertEqual(strength_pairs(8, (), 7), [])
        self.assertEqual(strength_pairs(8, [row, ()], 7), [(0, 1)])
        self.raises(TooMany, "rows", strength_pairs, 8, [row] * 21, 7)
        self.raises(TooMany, "rows", strength_pairs, 8, [None] * 21, None)
        chance = seeded(414)
        rows = [[(chance.randrange(3), k) for k in range(3, 8)] + [(1, 0), (2, 1), (0, 2)] for _ in range(20)]
        found = strength_pairs(8, rows, 7)
        self.assertEqual(found, sorted(found))

    def test_errors_in_their_order(self):
        for value in NO_INTEGERS + [-1, 0, 1, 9]:
            self.raises(BadNumber, "many", alike, value, None, None, None)
            for call in (spare, shorten, strength_pairs):
                self.raises(BadNumber, "many", call, value, None, None)
        for value, place in wrong_rows(3, 8):
            self.raises(BadLine, place, alike, 3, value, None, None)
            self.raises(BadLine, place, alike, 3, [], value, None)
            self.raises(BadLine, place, spare, 3, value, None)
            self.raises(BadLine, place, shorten, 3, value, None)
            self.raises(BadLine, place, strength_pairs, 3, [[], value, None], None)
        for value in NO_LISTS:
            self.raises(BadLine, -1, strength_pairs, 3, value, None)
        for value in NO_INTEGERS + [-1, 3]:
            self.raises(BadNumber, "part", alike, 3, [], [(0, 1)], value)
            self.raises(BadNumber, "part", spare, 3, [(0, 1)], value)
            self.raises(BadNumber, "part", shorten, 3, [], value)
            self.raises(BadNumber, "part", strength_pairs, 3, [], value)
        row, rows = [[0, 1], [0, 1]], [[[0, 1]], ()]
        spare(3, row, 1)
        shorten(3, row, 1)
        strength_pairs(3, rows, 1).clear()
        self.assertEqual((row, rows), ([[0, 1], [0, 1]], [[[0, 1]], ()]))
        self.assertEqual(strength_pairs(3, rows, 1), [(0, 1)])


if __name__ == "__main__":
    unittest.main()
