"""Points 158 and 159: live paths, best rows, and when a part becomes clean."""

import unittest
from itertools import permutations

from deeplooks.errors import BadLine, BadLot, BadNumber, BadSet
from deeplooks.feeding import feeding_pairs, is_best_order
from deeplooks.livepaths import clean_when, holds_path, is_best_row, lacking_path, live_paths, path_when
from deeplooks.orders import Order
from deeplooks.selfkept import greatest_kept
from deeplooks.strength import shuts
from deeplooks.systems import System
from tests.asked import clean_for_good, cleaned, single_looks, some_lot, wrong_levels, wrong_looks, wrong_rows
from tests.helpers import NO_INTEGERS, Case, seeded
from tests.slowopen import all_lots
from tests.slowsieve import one_place
from tests.test_feeding import N, RING, dense


def chain_of(count):
    """A system and looks whose live paths are all rows of targets that lead on, one chain of so many parts."""
    many = min(8, count + 1)
    needs = [[] for _ in range(many)]
    return System(1, [0] * many, needs, [0]), [(k, k + 1) for k in range(count)]


def leading(chance, many, count):
    """A system and looks many of which lead on from one to the next one."""
    parts = chance.sample(range(many), count)
    system = System(1, [0] * many, [[p for p in range(many) if chance.random() < 0.12] for _ in range(many)], [0])
    looks = list(zip([chance.randrange(many)] + parts, parts))
    chance.shuffle(looks)
    return system, looks


def paths_by_the_words(system, looks):
    """All live paths, by trying each row of different targets."""
    measurer = {b: a for a, b in looks}
    found = []
    for length in range(1, len(looks) + 1):
        for path in permutations(sorted(measurer), length):
            needs = [set(system.needs[measurer[x]]) for x in path]
            leads = all(path[i] in needs[i + 1] for i in range(length - 1))
            if leads and not any(needs[i] & set(path[i:]) for i in range(length)):
                found.append(path)
    return found


def held_at(row, path):
    """The position at which the row holds the path, None if it does not."""
    at = -1
    for part in path:
        later = [i for i in range(at + 1, len(row)) if row[i][1] == part]
        if not later:
            return None
        at = later[0]
    return at


def is_best_by_lots(system, looks, row):
    """True if the row shuts out all that some row of the looks shuts out, by trying every lot."""
    return all(cleaned(system, levels, row)[-1] == clean_for_good(system, levels, looks)
               for levels in all_lots(system.many))


def some_row(chance, looks, most):
    """A row of the looks."""
    return [chance.choice(looks) for _ in range(chance.randrange(most + 1))]


class LivePaths(Case):

    def test_by_the_words(self):
        chance = seeded(360)
        longest = 0
        for _ in range(300):
            many = chance.randrange(2, 9)
            looks = single_looks(chance, many, chance.randrange(1, min(many, 5) + 1))
            system = chance.choice([one_place, dense])(chance, many)
            if chance.random() < 0.4:
                system, looks = leading(chance, many, len(looks))
            found = live_paths(system, [list(look) for look in looks])
            self.assertIs(type(found), list)
            self.assertEqual(found, paths_by_the_words(system, looks))
            longest = max([longest] + [len(path) for path in found])
        self.assertGreater(longest, 3)

    def test_long_chains(self):
        for count in (5, 6, 7):
            system, looks = chain_of(count)
            found = live_paths(system, looks)
            right = [tuple(range(a, b)) for a in range(1, count + 1) for b in range(a + 1, count + 2)]
            self.assertEqual(found, sorted(sorted(right), key=len))
        # Each measurer needs all targets ahead of its look: all ascending rows are live.
        system = System(1, [0] * 8, [[p for p in range(1, 8) if p <= k] for k in range(8)], [0])
        looks = [(k, k + 1) for k in range(7)]
        self.assertEqual(len(live_paths(system, looks)), 127)

    def test_eight_looks(self):
        chance = seeded(361)
        for _ in range(20):
            looks = single_looks(chance, 8, 8)
            system = one_place(chance, 8)
            measurer = {b: a for a, b in looks}
            found = live_paths(system, looks)
            self.assertEqual(len(set(found)), len(found))
            self.assertEqual(found, sorted(sorted(found), key=len))
            for path in found:
                needs = [set(system.needs[measurer[x]]) for x in path]
                self.assertTrue(all(path[i] in needs[i + 1] for i in range(len(path) - 1)))
                self.assertFalse(any(needs[i] & set(path[i:]) for i in range(len(path))))
            alive = [b for a, b in looks if b not in system.needs[a]]
            self.assertEqual([path[0] for path in found if len(path) == 1], sorted(alive))

    def test_path_when(self):
        chance = seeded(362)
        for _ in range(400):
            row = [[chance.randrange(9), chance.randrange(4)] for _ in range(chance.randrange(8))]
            path = [chance.randrange(4) for _ in range(chance.randrange(1, 5))]
            right = held_at(row, path)
            self.assertEqual(path_when(row, path), right)
            self.assertIs(holds_path(tuple(row), tuple(path)), right is not None)
        self.assertEqual(path_when([(0, 1), (2, 2), (0, 1), (5, 3), (2, 2)], (1, 2, 2)), 4)
        self.assertIsNone(path_when([], (1,)))


class BestRows(Case):

    def test_by_trying_every_lot(self):
        chance = seeded(363)
        told = {}
        for _ in range(220):
            many = chance.randrange(2, 6)
            looks = single_looks(chance, many, chance.randrange(1, min(many, 4) + 1))
            system = chance.choice([one_place, dense])(chance, many)
            row = some_row(chance, looks, 10)
            right = is_best_by_lots(system, looks, row)
            told[right] = told.get(right, 0) + 1
            self.assertIs(is_best_row(system, looks, row), right)
            lacking = [path for path in paths_by_the_words(system, looks) if held_at(row, path) is None]
            found = lacking_path(system, looks, [list(look) for look in row])
            self.assertEqual(found, lacking[0] if lacking else None)
            for path in lacking:
                levels = [1 if part in path else 0 for part in range(many)]
                self.assertIs(shuts(system, row, levels, path[-1]), False)
                measurer = {b: a for a, b in looks}
                self.assertIs(shuts(system, [(measurer[b], b) for b in path], levels, path[-1]), True)
        self.assertGreater(min(told.values()), 40)

    def test_rows_that_have_each_look_once(self):
        chance = seeded(364)
        told = {}
        cases = [RING] + [(one_place(chance, many), single_looks(chance, many, 3)) for many in (3, 4, 5) * 12]
        for system, looks in cases:
            for row in permutations(range(3)):
                best = is_best_row(system, looks, [looks[i] for i in row])
                self.assertIs(best, is_best_order(system, looks, Order.of_row(list(row))))
                told[best] = told.get(best, 0) + 1
        self.assertGreater(min(told.values()), 20)
        system, looks = N
        self.assertIs(is_best_row(system, looks, looks), True)
        self.assertIs(is_best_row(system, looks, looks[::-1]), False)
        self.assertEqual(len(feeding_pairs(system, looks)), 3)

    def test_rows_of_none_and_of_forty(self):
        system, looks = chain_of(5)
        self.assertEqual(lacking_path(system, looks, ()), (1,))
        self.assertIs(is_best_row(system, looks, (looks[::-1] * 8)), True)
        self.assertIs(is_best_row(system, looks, looks[::-1] * 4), False)
        self.assertEqual(lacking_path(system, looks, looks[::-1] * 4), (1, 2, 3, 4, 5))
        self.raises(BadLine, -1, is_best_row, system, looks, looks * 8 + looks[:1])
        dead = System(1, [0, 0], [[1], []], [0])
        self.assertIs(is_best_row(dead, [(0, 1)], []), True)
        self.assertIsNone(lacking_path(dead, [(0, 1)], []))
        self.assertEqual(live_paths(dead, [(0, 1)]), [])


class CleanWhen(Case):

    def test_positions(self):
        chance = seeded(365)
        told = {}
        for _ in range(500):
            many = chance.randrange(2, 9)
            looks = single_looks(chance, many, chance.randrange(1, many + 1))
            system, levels = one_place(chance, many), some_lot(chance, many, chance.choice([1, 2]))
            row = some_row(chance, looks, 12)
            along = cleaned(system, levels, row)
            for part in range(many):
                right = [i - 1 for i, clean in enumerate(along) if part in clean]
                found = clean_when(system, looks, levels, row, part)
                self.assertEqual(found, right[0] if right else None)
                told[found is None, found == -1] = True
        self.assertEqual(len(told), 3)

    def test_by_live_paths(self):
        chance = seeded(366)
        tried = {}
        for _ in range(300):
            many = chance.randrange(2, 7)
            looks = single_looks(chance, many, chance.randrange(1, many + 1))
            system, levels = chance.choice([one_place, dense])(chance, many), some_lot(chance, many, 1)
            if chance.random() < 0.7:
                system, looks = leading(chance, many, len(looks))
            row = some_row(chance, looks, 16)
            kept = greatest_kept(system, looks, levels)
            for part in range(many):
                if levels[part] != 1 or part in kept:
                    continue
                paths = [path for path in live_paths(system, looks)
                         if path[-1] == part and all(levels[x] == 1 for x in path)]
                self.assertTrue(paths)
                places = [path_when(row, path) for path in paths]
                right = None if None in places else max(places)
                tried[right is None] = tried.get(right is None, 0) + 1
                self.assertEqual(clean_when(system, looks, levels, row, part), right)
        self.assertGreater(min(tried.values()), 40)

    def test_errors_in_their_order(self):
        system, looks = System(1, [0] * 3, [[]] * 3, [0]), [(0, 1), (1, 0)]
        for value in wrong_looks(3) + [[(0, 1), (2, 1)]]:
            self.raises(BadSet, "looks", live_paths, system, value)
            self.raises(BadSet, "looks", lacking_path, system, value, None)
            self.raises(BadSet, "looks", is_best_row, system, value, None)
            self.raises(BadSet, "looks", clean_when, system, value, None, None, None)
        for value, place in wrong_levels(3):
            self.raises(BadLot, place, clean_when, system, looks, value, None, None)
        wrong = wrong_rows(3, 40) + [([(0, 1), (1, 2)], 1), ([(2, 1)], 0), ([[1, 0], [0, 1], (0, 0), 7], 2)]
        for value, place in wrong:
            self.raises(BadLine, place, lacking_path, system, looks, value)
            self.raises(BadLine, place, is_best_row, system, looks, value)
            self.raises(BadLine, place, clean_when, system, looks, [1, 1, 1], value, None)
        for value in NO_INTEGERS + [-1, 3]:
            self.raises(BadNumber, "part", clean_when, system, looks, [1, 1, 1], [], value)
        given, levels, row = [[0, 1], (1, 0)], [0, 1, 2], [[0, 1]]
        clean_when(system, given, levels, row, 1)
        lacking_path(system, given, row)
        self.assertEqual((given, levels, row), ([[0, 1], (1, 0)], [0, 1, 2], [[0, 1]]))
        live_paths(system, looks).clear()
        self.assertEqual(live_paths(system, looks), [(0,), (1,)])


if __name__ == "__main__":
    unittest.main()
