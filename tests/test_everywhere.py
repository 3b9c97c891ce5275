"""Points 168 to 170 and 172: rows as strong as others in every system, by lots and by rules."""

import unittest
from itertools import combinations

from deeplooks.covers import Hearing, reaches
from deeplooks.errors import BadLine, BadNumber, TooMany
from deeplooks.everywhere import all_strong, matched, strong_by_rules, strong_everywhere, weak_by_rules, weak_system
from deeplooks.foes import Foe
from deeplooks.freesystems import free_foe, free_system
from deeplooks.lots import lot_open
from deeplooks.openness import is_open
from deeplooks.sieves import sieve
from deeplooks.strength import shuts
from deeplooks.systems import System
from tests.asked import cleaned, some_pairs, wrong_rows
from tests.helpers import NO_INTEGERS, NO_LISTS, Case, all_subsets, seeded
from tests.slowopen import all_lots, all_needs, free_foe as drawn_foe, line_of, look_rows, some_looks
from tests.slowsieve import one_place
from tests.test_firm import firm_ones, held_rows, some_firm_row


def shuts_foe(system, foe, row, part):
    """True if the row shuts the foe out for the part."""
    return not reaches(row, sieve(foe, row, Hearing(system, row)), (part, None))


def free_foes(many):
    """All foes with nothing stuck, but for those with rules that never do anything."""
    rules = [(q, p) for p in range(many) for q in all_subsets([r for r in range(many) if r != p])]
    for chosen in all_subsets(range(len(rules))):
        for early in all_subsets(range(many)):
            yield Foe(many, early, [rules[k] for k in chosen])


def slow_match(row, firm):
    """The first indexes at which the row matches the firm one, by trying all."""
    measurers = [[a for a, _ in firm[:k + 1]] for k in range(len(firm))]
    for chosen in combinations(range(len(row)), len(firm)):
        if all(row[i][1] == firm[k][1] and row[i][0] in measurers[k] for k, i in enumerate(chosen)):
            return chosen
    return None


def some_row(chance, many, most=5):
    """A row of at most so many looks."""
    return some_pairs(chance, many, chance.randrange(most + 1))


def related(chance, many, row):
    """A row that is made from the other one by a few changes."""
    found = [tuple(look) for look in row]
    for _ in range(chance.randrange(3)):
        kind = chance.randrange(3)
        if kind == 0 and len(found) < 8:
            found.insert(chance.randrange(len(found) + 1), (chance.randrange(many), chance.randrange(many)))
        elif kind == 1 and found:
            found.pop(chance.randrange(len(found)))
        elif found:
            i, j = chance.randrange(len(found)), chance.randrange(len(found))
            found[i], found[j] = found[j], found[i]
    return found


class Everywhere(Case):

    def check_weak(self, many, row, other, part, found, right):
        """A system and a lot that the other row shuts out and the row does not."""
        self.assertEqual(found is None, right)
        if found is not None:
            self.assertIs(type(found), tuple)
            system, levels = found
            self.assertEqual((system.homes, system.managers), ((0,) * many, (0,)))
            self.assertIs(shuts(system, other, levels, part), True)
            self.assertIs(shuts(system, row, levels, part), False)

    def test_all_systems_and_lots(self):
        chance = seeded(390)
        told = {}
        for many, rounds in ((2, 250), (3, 120)):
            systems = list(all_needs(many))
            for _ in range(rounds):
                other = some_row(chance, many, 4)
                row = related(chance, many, other) if chance.random() < 0.7 else some_row(chance, many, 4)
                ends = [(cleaned(system, levels, row)[-1], cleaned(system, levels, other)[-1])
                        for system in systems for levels in all_lots(many)]
                for part in range(many):
                    right = all(part in one for one, two in ends if part in two)
                    told[right] = told.get(right, 0) + 1
                    self.assertIs(strong_everywhere(many, row, other, part), right, (row, other, part))
                    self.check_weak(many, row, other, part, weak_system(many, row, other, part), right)
        self.assertGreater(min(told.values()), 100)

    def test_drawn_systems_and_lots(self):
        chance = seeded(391)
        told = {}
        for _ in range(150):
            many = chance.randrange(4, 9)
            other = some_row(chance, many, 8)
            row = related(chance, many, other)
            part = other[-1][1] if other else 0
            right = strong_everywhere(many, row, other, part)
            told[right] = told.get(right, 0) + 1
            self.check_weak(many, row, other, part, weak_system(many, row, other, part), right)
            for _ in range(30 if right else 0):
                system, levels = one_place(chance, many), [chance.choice([0, 0, 1, 1, 1, 2]) for _ in range(many)]
                if part in cleaned(system, levels, other)[-1]:
                    self.assertIn(part, cleaned(system, levels, row)[-1])
        self.assertGreater(min(told.values()), 30)

    def test_without_a_look_at_the_part(self):
        chance = seeded(392)
        for _ in range(50):
            many = chance.randrange(3, 9)
            other = [look for look in some_row(chance, many, 8) if look[1] != 1]
            self.assertIs(strong_everywhere(many, some_row(chance, many, 8), other, 1), True)
            self.assertIs(strong_by_rules(many, some_row(chance, many, 8), other, 1), True)

    def test_phrases(self):
        chance = seeded(393)
        tried = 0
        for _ in range(40):
            system, phrase = one_place(chance, 3), some_looks(chance, 3, 4)
            other = chance.choice(look_rows(phrase))
            row, part = [line_of(phrase, other)[k] for k in range(len(other))], chance.randrange(3)
            rows = [line_of(phrase, order) for order in look_rows(phrase)]
            if all_strong(3, rows, row, part):
                tried += 1
                for levels in all_lots(3):
                    if shuts(system, row, levels, part):
                        self.assertIs(lot_open(system, phrase, (part, None), levels), False)
            if all_strong(3, rows, row, part, by_rules=True):
                foe = drawn_foe(chance, 3)
                if shuts_foe(system, foe, row, part):
                    self.assertIs(is_open(system, foe, phrase, (part, None)), False)
        self.assertGreater(tried, 15)

    def test_in_both_senses(self):
        chance = seeded(394)
        linked = 0
        for _ in range(100):
            many = chance.randrange(2, 6)
            part = chance.randrange(many)
            v = some_row(chance, many, 6)
            w, u = related(chance, many, v), related(chance, many, v)
            for call in (strong_everywhere, strong_by_rules):
                self.assertIs(call(many, v, v, part), True)
                for held in list(held_rows(tuple(map(tuple, v))))[:6]:
                    self.assertIs(call(many, v, held, part), True)
                if call(many, u, w, part) and call(many, w, v, part):
                    linked += 1
                    self.assertIs(call(many, u, v, part), True)
            if strong_by_rules(many, w, v, part):
                self.assertIs(strong_everywhere(many, w, v, part), True)
        self.assertGreater(linked, 40)
        for many in range(3, 9):
            one, two = [(0, 2), (0, 1)], [(0, 1), (0, 2)]
            self.assertIs(strong_everywhere(many, one, two, 2), True)
            self.assertIs(strong_by_rules(many, one, two, 2), False)


class ByRules(Case):

    def test_matched(self):
        chance = seeded(395)
        told = {}
        for _ in range(400):
            many = chance.randrange(2, 6)
            wanted, _ = some_firm_row(chance, many)
            row = related(chance, many, wanted) + some_row(chance, many, 4)
            found = matched([list(look) for look in row], wanted)
            self.assertEqual(found, slow_match([tuple(look) for look in row], wanted))
            told[found is None] = told.get(found is None, 0) + 1
        self.assertGreater(min(told.values()), 100)
        self.assertEqual(matched([(0, 1), (0, 1)], [(0, 1)]), (0,))
        self.assertIsNone(matched([], [(0, 1)]))
        self.assertEqual(matched([(1, 3), (0, 2), (0, 3)], [[0, 2], [1, 3]]), (1, 2))
        self.assertIsNone(matched([(1, 2), (1, 3)], [[0, 2], [1, 3]]))

    def test_a_row_shuts_the_free_foe_out_exactly_if_it_matches(self):
        chance = seeded(396)
        told = {}
        for _ in range(300):
            many = chance.randrange(2, 9)
            firm, part = some_firm_row(chance, many)
            row = (related(chance, many, firm) + some_row(chance, many, 2))[:8]
            right = shuts_foe(free_system(many, firm, part), free_foe(many, firm, part), row, part)
            told[right] = told.get(right, 0) + 1
            self.assertIs(matched(row, firm) is not None, right)
        self.assertGreater(min(told.values()), 60)

    def check_weak(self, row, other, part, found, right):
        """A system and a foe that the other row shuts out and the row does not."""
        self.assertEqual(found is None, right)
        if found is not None:
            system, foe = found
            self.assertEqual(foe.stuck, ())
            self.assertEqual((set(system.homes), system.managers), ({0}, (0,)))
            self.assertIs(shuts_foe(system, foe, other, part), True)
            self.assertIs(shuts_foe(system, foe, row, part), False)

    def test_all_foes_over_two_parts(self):
        chance = seeded(397)
        told = {}
        foes, systems = list(free_foes(2)), list(all_needs(2))
        for _ in range(110):
            other = some_row(chance, 2, 4)
            row = related(chance, 2, other)
            for part in range(2):
                right = all(shuts_foe(system, foe, row, part) for system in systems for foe in foes
                            if shuts_foe(system, foe, other, part))
                told[right] = told.get(right, 0) + 1
                self.assertIs(strong_by_rules(2, row, other, part), right)
                self.check_weak(row, other, part, weak_by_rules(2, row, other, part), right)
        self.assertGreater(min(told.values()), 10)

    def test_drawn_foes(self):
        chance = seeded(398)
        told = {}
        for _ in range(150):
            many = chance.randrange(3, 9)
            other = some_row(chance, many, 7)
            row = related(chance, many, other)
            part = other[-1][1] if other else 0
            right = strong_by_rules(many, row, other, part)
            told[right] = told.get(right, 0) + 1
            self.assertIs(right, all(slow_match(row, firm) is not None for firm in firm_ones(other, part)))
            self.check_weak(row, other, part, weak_by_rules(many, row, other, part), right)
            for _ in range(10 if right else 0):
                system, foe = one_place(chance, many), drawn_foe(chance, many)
                if shuts_foe(system, foe, other, part):
                    self.assertIs(shuts_foe(system, foe, row, part), True)
        self.assertGreater(min(told.values()), 30)

    def test_no_order_is_best(self):
        chance = seeded(399)
        for _ in range(100):
            many = chance.randrange(3, 7)
            x, b = chance.sample(range(many), 2)
            others = [p for p in range(many) if p not in (x, b)]
            a, c = chance.choice(others), chance.choice(others)
            needs = [[p for p in others if chance.random() < 0.3] for _ in range(many)]
            system = System(1, [0] * many, needs, [0])
            row, back = [(a, x), (c, b)], [(c, b), (a, x)]
            one, two = Foe(many, [x, b], [([x], b)]), Foe(many, [x, b], [([b], x)])
            self.assertIs(shuts_foe(system, one, row, b), True)
            self.assertIs(shuts_foe(system, one, back, b), False)
            self.assertIs(shuts_foe(system, two, back, x), True)
            self.assertIs(shuts_foe(system, two, row, x), False)
            self.assertIs(strong_by_rules(many, row, back, x), False)
            self.assertIs(strong_by_rules(many, back, row, b), False)


class AllStrong(Case):

    def test_rows_one_by_one(self):
        chance = seeded(400)
        told = {}
        for _ in range(200):
            many = chance.randrange(2, 7)
            other = some_row(chance, many, 6)
            rows = [related(chance, many, other) for _ in range(chance.randrange(4))]
            part = other[-1][1] if other else 0
            right = all(strong_everywhere(many, row, other, part) for row in rows)
            self.assertIs(all_strong(many, rows, other, part), right)
            ruled = all(strong_by_rules(many, row, other, part) for row in rows)
            self.assertIs(all_strong(many, tuple(rows), other, part, by_rules="yes"), ruled)
            self.assertIs(all_strong(many, rows, other, part, by_rules=0), right)
            told[right] = told.get(right, 0) + 1
        self.assertGreater(min(told.values()), 25)

    def test_two_hundred_rows_and_none(self):
        row = [(0, k) for k in range(1, 8)] + [(1, 0)]
        for by_rules in (False, True):
            self.assertIs(all_strong(8, [], row, 7, by_rules=by_rules), True)
            self.assertIs(all_strong(8, [row] * 200, row, 7, by_rules=by_rules), True)
            self.assertIs(all_strong(8, [row] * 199 + [row[:6]], row, 7, by_rules=by_rules), False)
            self.raises(TooMany, "rows", all_strong, 8, [row] * 201, row, 7, by_rules=by_rules)
        self.raises(TooMany, "rows", all_strong, 8, [None] * 201, None, None)

    def test_errors_in_their_order(self):
        calls = (strong_everywhere, weak_system, strong_by_rules, weak_by_rules)
        for value in NO_INTEGERS + [-1, 0, 1, 9]:
            for call in calls + (all_strong,):
                self.raises(BadNumber, "many", call, value, None, None, None)
        for value, place in wrong_rows(3, 8):
            for call in calls:
                self.raises(BadLine, place, call, 3, value, None, None)
                self.raises(BadLine, place, call, 3, [], value, None)
            self.raises(BadLine, place, all_strong, 3, [[], value, None], None, None)
            self.raises(BadLine, place, all_strong, 3, [], value, None)
        for value in NO_LISTS:
            self.raises(BadLine, -1, all_strong, 3, value, None, None)
        for value in NO_INTEGERS + [-1, 3]:
            for call in calls:
                self.raises(BadNumber, "part", call, 3, [], [(0, 1)], value)
            self.raises(BadNumber, "part", all_strong, 3, [], [(0, 1)], value)
        row, rows = [[0, 1], (0, 2)], [[[0, 1]], ((0, 2),)]
        weak_system(3, row, [(0, 2), (0, 1)], 2)
        all_strong(3, rows, row, 2)
        self.assertEqual((row, rows), ([[0, 1], (0, 2)], [[[0, 1]], ((0, 2),)]))


if __name__ == "__main__":
    unittest.main()
