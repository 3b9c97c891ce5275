"""Points 166 and 167: firm rows, their free systems, lots and foes."""

import unittest
from itertools import combinations, product

from deeplooks.covers import Hearing, reaches
from deeplooks.errors import BadLine, BadNumber
from deeplooks.firm import first_uses, firm_rows, is_firm
from deeplooks.foes import Foe
from deeplooks.freesystems import free_foe, free_lot, free_system
from deeplooks.sieves import clean_rows, sieve
from deeplooks.systems import System
from tests.asked import some_pairs, wrong_rows
from tests.helpers import NO_INTEGERS, Case, seeded
from tests.slowsieve import Forms, reached, unheard_forms


def firm(row, part):
    """True if the row is firm for the part, by point 167."""
    if not row or row[-1][1] != part or len({b for _, b in row}) != len(row):
        return False
    return not any(row[i][1] == row[k][0] for i in range(len(row)) for k in range(i + 1))


def held_rows(row):
    """All rows that are left when looks are taken out of the row."""
    return {tuple(row[k] for k in chosen) for many in range(len(row) + 1) for chosen in combinations(range(len(row)), many)}


def firm_ones(row, part):
    """The firm rows that the row holds, in their order."""
    return sorted((held for held in held_rows(tuple(map(tuple, row))) if firm(held, part)),
                  key=lambda held: (len(held), held))


def some_firm_row(chance, many):
    """A firm row over so many parts, and its part."""
    while True:
        row = some_pairs(chance, many, chance.randrange(1, 8))
        rows = firm_ones(row, row[-1][1])
        if rows:
            return rows[-1], row[-1][1]


class FirmRows(Case):

    def test_first_uses(self):
        self.assertEqual(first_uses([(3, 1), [0, 2], (3, 0), (0, 0), [5, 5]]), {3: 0, 0: 1, 5: 4})
        self.assertEqual(first_uses(()), {})

    def test_all_small_rows(self):
        looks = list(product(range(3), repeat=2))
        for length in range(4):
            for row in product(looks, repeat=length):
                for part in range(3):
                    self.assertIs(is_firm(row, part), firm(row, part))
        self.assertIs(is_firm([[7, 9]], 9), True)
        self.assertIs(is_firm([], 0), False)
        # A measurer may be the target of an earlier look.
        self.assertIs(is_firm([(0, 1), (1, 2)], 2), True)
        self.assertIs(is_firm([(1, 2), (0, 1)], 1), False)
        self.assertIs(is_firm([(0, 1), (0, 1)], 1), False)

    def test_rows_that_a_row_holds(self):
        chance = seeded(380)
        most = 0
        for _ in range(200):
            many = chance.randrange(2, 9)
            row = some_pairs(chance, many, chance.randrange(9))
            part = chance.randrange(many)
            found = firm_rows(many, row, part)
            self.assertIs(type(found), list)
            self.assertEqual(found, firm_ones(row, part))
            most = max(most, len(found))
        self.assertGreater(most, 15)
        row = [(0, k) for k in range(1, 8)]
        self.assertEqual(len(firm_rows(8, row, 7)), 64)
        self.assertEqual(firm_rows(2, (), 0), [])

    def test_errors_in_their_order(self):
        for value in NO_INTEGERS + [-1, 0, 1, 9]:
            self.raises(BadNumber, "many", firm_rows, value, None, None)
            for call in (free_system, free_lot, free_foe):
                self.raises(BadNumber, "many", call, value, None, None)
        for value, place in wrong_rows(3, 8):
            self.raises(BadLine, place, firm_rows, 3, value, None)
            for call in (free_system, free_lot, free_foe):
                self.raises(BadLine, place, call, 3, value, None)
        for value in NO_INTEGERS + [-1, 3]:
            self.raises(BadNumber, "part", firm_rows, 3, [(0, 1)], value)
            for call in (free_system, free_lot, free_foe):
                self.raises(BadNumber, "part", call, 3, [(0, 1)], value)
        for call in (free_system, free_lot, free_foe):
            for row in ([], [(0, 0)], [(0, 2)], [(0, 1), (0, 1)], [(1, 2), (0, 1)]):
                self.raises(BadLine, -1, call, 3, row, 1)
        row = [[0, 1], (0, 2)]
        firm_rows(3, row, 2)
        free_system(3, row, 2)
        self.assertEqual(row, [[0, 1], (0, 2)])
        firm_rows(3, row, 2).clear()
        self.assertEqual(firm_rows(3, row, 2), [((0, 2),), ((0, 1), (0, 2))])
        first_uses(row).clear()


class Free(Case):

    def test_by_the_words(self):
        chance = seeded(381)
        for _ in range(200):
            many = chance.randrange(2, 9)
            row, part = some_firm_row(chance, many)
            needs = []
            for a in range(many):
                first = [i for i, look in enumerate(row) if look[0] == a]
                needs.append({a} | {b for _, b in row[:first[0]]} if first else set(range(many)))
            given = [list(look) for look in row]
            self.assertEqual(free_system(many, given, part), System(1, [0] * many, [sorted(need) for need in needs], [0]))
            targets = [b for _, b in row]
            self.assertEqual(free_lot(many, given, part), tuple(1 if p in targets else 0 for p in range(many)))
            rules = [([targets[i]], targets[j]) for j in range(len(row)) for i in range(j)]
            self.assertEqual(free_foe(many, given, part), Foe(many, targets, rules))

    def test_what_a_firm_row_shuts_out(self):
        chance = seeded(382)
        for _ in range(150):
            many = chance.randrange(2, 9)
            row, part = some_firm_row(chance, many)
            system = free_system(many, row, part)
            targets = [b for _, b in row]
            for foe in (free_foe(many, row, part), Foe.of_lot(free_lot(many, row, part))):
                run = sieve(foe, row, Hearing(system, row))
                for target in targets:
                    self.assertIs(reaches(row, run, (target, None)), False)
                clean = clean_rows(system, foe, row)
                self.assertEqual(clean[0], tuple(p for p in range(many) if p not in targets))
                for k, target in enumerate(targets):
                    self.assertEqual(set(clean[k + 1]) - set(clean[k]), {target})

    def test_by_listing_all_runs(self):
        looks = list(product(range(3), repeat=2))
        for length in (1, 2):
            for row in product(looks, repeat=length):
                part = row[-1][1]
                if not firm(row, part):
                    continue
                system = free_system(3, row, part)
                for foe in (free_foe(3, row, part), Foe.of_lot(free_lot(3, row, part))):
                    unheard = unheard_forms(system, row, Forms(foe).of(length))
                    for _, target in row:
                        self.assertFalse(any(reached(form, (target, None)) for form in unheard))

    def test_seven_looks(self):
        row = [(0, k) for k in range(1, 8)]
        self.assertEqual(len(free_foe(8, row, 7).rules), 21)
        self.assertEqual(free_lot(8, row, 7), (0, 1, 1, 1, 1, 1, 1, 1))
        self.assertEqual(free_system(8, row, 7).needs[:2], ((0,), tuple(range(8))))


if __name__ == "__main__":
    unittest.main()
