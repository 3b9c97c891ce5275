"""Points 16 to 20: rules, foes, lots, larger and joined foes, the text of a foe and its reading."""

import re
import unittest

from deeplooks.errors import BadFoe, BadLot, BadSet, BadText
from deeplooks.foes import Foe, foe_from, foe_text
from tests.helpers import (NO_INTEGERS, NO_LISTS, NO_TEXTS, Case, all_foes, all_rules, near_texts, seeded,
                           some_foe)

# 8 rules to each of the parts 0, 1 and 2, in the order of point 19.
MANY_RULES = [rule for rule in all_rules(4) if len(rule[0]) < 3 and rule[1] < 3][:24]


class Making(Case):

    def test_attributes(self):
        foe = Foe(3, [2, 0], [([1, 0], 2), ([], 1), ((0,), 2)], stuck=(2, 1))
        self.assertEqual(foe.many, 3)
        self.assertEqual(foe.early, (0, 2))
        self.assertEqual(foe.rules, (((), 1), ((0,), 2), ((0, 1), 2)))
        self.assertEqual(foe.stuck, (1, 2))
        self.assertEqual(Foe(3, [], []).stuck, ())

    def test_order_of_rules_is_by_part_then_short_first(self):
        rules = [([0, 1], 0), ([3], 0), ([2, 3], 0), ([1], 0), ([], 1), ([], 0), ([0, 1, 2], 0), ([0, 3], 0)]
        right = (((), 0), ((1,), 0), ((3,), 0), ((0, 1), 0), ((0, 3), 0), ((2, 3), 0), ((0, 1, 2), 0), ((), 1))
        self.assertEqual(Foe(4, [], rules).rules, right)
        self.assertEqual(Foe(4, [], list(reversed(rules))).rules, right)

    def test_rules_told_twice(self):
        self.assertEqual(Foe(2, [], [([0, 1], 1), ([1, 0], 1), ((0, 1), 1)]).rules, (((0, 1), 1),))
        # Each counts as passed: 24 are right, 25 are wrong, also if they are one rule.
        self.assertEqual(Foe(2, [], [([], 1)] * 24).rules, (((), 1),))
        self.raises(BadFoe, "rules", Foe, 2, [], [([], 1)] * 25)

    def test_bounds(self):
        self.assertEqual(Foe(1, [0], []).many, 1)
        self.assertEqual(Foe(8, range_list(8), [], stuck=range_list(8)).many, 8)
        self.assertEqual(len(Foe(4, [], MANY_RULES).rules), 24)
        self.raises(BadFoe, "rules", Foe, 4, [], MANY_RULES + [([0, 1, 2, 3], 3)])
        for value in NO_INTEGERS + [0, 9, -1]:
            self.raises(BadFoe, "many", Foe, value, [], [])

    def test_own_part_in_the_premise(self):
        self.assertEqual(Foe(2, [], [([0, 1], 1)]).rules, (((0, 1), 1),))

    def test_wrong_sets(self):
        wrong = NO_LISTS + [[2], [-1], [0, 0]] + [[member] for member in NO_INTEGERS]
        for value in wrong:
            self.raises(BadFoe, "early", Foe, 2, value, [])
            self.raises(BadFoe, "stuck", lambda told=value: Foe(2, [], [], stuck=told))
            self.raises(BadFoe, "rules", Foe, 2, [], [(value, 1)])

    def test_wrong_rules(self):
        wrong = [[0], [[]], [([],)], [([], 0, 1)], [([], 2)], [([], -1)], [(0, [])], ["01"], [{0: 1}], [None]]
        wrong = wrong + NO_LISTS + [[([], member)] for member in NO_INTEGERS]
        for value in wrong:
            self.raises(BadFoe, "rules", Foe, 2, [], value)

    def test_first_fault_is_told(self):
        right = [2, [0], [([], 0)], [1]]
        wrong = [0, [5], [([], 7)], [9]]
        names = ["many", "early", "rules", "stuck"]
        for first in range(4):
            for second in range(first, 4):
                told = list(right)
                told[first] = wrong[first]
                told[second] = wrong[second]
                self.raises(BadFoe, names[first], lambda t=told: Foe(t[0], t[1], t[2], stuck=t[3]))

    def test_copies_what_is_passed(self):
        early, premise, rules, stuck = [0], [1], [], [1]
        rules.append([premise, 0])
        foe = Foe(2, early, rules, stuck=stuck)
        self.assertEqual((early, rules, stuck), ([0], [[[1], 0]], [1]))
        early.append(1)
        premise.clear()
        rules.append(([], 1))
        stuck.clear()
        self.assertEqual(foe, Foe(2, [0], [([1], 0)], stuck=[1]))

    def test_stuck_goes_by_keyword(self):
        with self.assertRaises(TypeError):
            Foe(2, [0], [], [1])

    def test_equal(self):
        foe = Foe(2, [0], [([], 0), ([0], 1)], stuck=[1])
        self.assertTrue(foe == Foe(2, (0,), [((0,), 1), ((), 0)], stuck=(1,)))
        others = [Foe(3, [0], [([], 0), ([0], 1)], stuck=[1]), Foe(2, [1], [([], 0), ([0], 1)], stuck=[1]),
                  Foe(2, [0], [([0], 1)], stuck=[1]), Foe(2, [0], [([], 0), ([0], 1)]), None, 2, "foe"]
        for other in others:
            self.assertIs(foe == other, False)


def range_list(many):
    return list(range(many))


class Asking(Case):

    def test_free_parts(self):
        foe = Foe(4, [0, 1, 3], [([], 1), ([], 2), ([0], 0), ([], 3)])
        self.assertEqual(foe.free_parts(), (1, 3))
        self.assertEqual(Foe(1, [], []).free_parts(), ())

    def test_less(self):
        foe = Foe(4, [0, 1], [([], 1), ([2], 0), ([1, 3], 3), ([0], 3)], stuck=[1, 2])
        left = Foe(4, [0], [([2], 0), ([0], 3)], stuck=[1, 2])
        self.assertEqual(foe.less([1]), left)
        self.assertEqual(foe.less(()), foe)
        self.assertEqual(foe.less([3, 2, 1, 0]), Foe(4, [], [], stuck=[1, 2]))
        for value in NO_LISTS + [[4], [0, 0], [True]]:
            self.raises(BadSet, "parts", foe.less, value)

    def test_holds(self):
        small = Foe(3, [0], [([], 0)], stuck=[1, 2])
        large = Foe(3, [0, 1], [([], 0), ([0], 1)], stuck=[2])
        self.assertIs(large.holds(small), True)
        self.assertIs(small.holds(large), False)
        self.assertIs(small.holds(small), True)
        self.assertIs(Foe(3, [], [([], 0)], stuck=[1]).holds(small), False)
        self.assertIs(Foe(3, [0], [], stuck=[1]).holds(small), False)
        self.assertIs(Foe(3, [0], [([], 0)], stuck=[0]).holds(small), False)
        self.raises(BadFoe, "many", small.holds, Foe(2, [], []))

    def test_joined(self):
        one = Foe(3, [0], [([], 0)], stuck=[1, 2])
        other = Foe(3, [1], [([0], 1), ([], 0)], stuck=[0, 2])
        self.assertEqual(one | other, Foe(3, [0, 1], [([], 0), ([0], 1)], stuck=[2]))
        self.assertEqual(one, Foe(3, [0], [([], 0)], stuck=[1, 2]))
        self.raises(BadFoe, "many", one.__or__, Foe(2, [], []))
        full = Foe(4, [], MANY_RULES)
        self.assertEqual(len((full | full).rules), 24)
        self.raises(BadFoe, "rules", full.__or__, Foe(4, [], [([], 3)]))
        self.raises(BadFoe, "many", full.__or__, Foe(5, [], [([], 3)]))

    def test_joined_is_the_least_of_the_larger(self):
        chance = seeded(8)
        foes = [some_foe(chance, 2, 3) for _ in range(20)]
        for one in foes:
            for other in foes:
                both = one | other
                self.assertTrue(both.holds(one) and both.holds(other))
                for third in foes:
                    if third.holds(one) and third.holds(other):
                        self.assertTrue(third.holds(both))


class Lots(Case):

    def test_of_lot(self):
        self.assertEqual(Foe.of_lot([0, 1, 2]), Foe(3, [1, 2], [([], 2)]))
        self.assertEqual(Foe.of_lot((0,)), Foe(1, [], []))
        self.assertEqual(Foe.of_lot([2] * 8).free_parts(), tuple(range(8)))

    def test_refused(self):
        for value in NO_LISTS + [[], [0] * 9, [7] * 9]:
            self.raises(BadLot, -1, Foe.of_lot, value)
        for member in NO_INTEGERS + [3, -1]:
            self.raises(BadLot, 1, Foe.of_lot, [2, member, 0])
            self.raises(BadLot, 0, Foe.of_lot, [member, member])

    def test_a_higher_lot_is_a_larger_foe(self):
        lots = [(a, b) for a in range(3) for b in range(3)]
        for one in lots:
            for other in lots:
                above = one[0] >= other[0] and one[1] >= other[1]
                self.assertIs(Foe.of_lot(one).holds(Foe.of_lot(other)), above)


def numbers(text):
    """The numbers of a text of a set, None if it is no such text."""
    if not re.fullmatch("[0-7]( [0-7])*", text):
        return None
    found = [int(word) for word in text.split(" ")]
    return found if sorted(set(found)) == found else None


def right_set(line, word, many):
    """True if the line tells a set."""
    if line == word:
        return True
    found = numbers(line[len(word) + 1:]) if line.startswith(word + " ") else None
    return found is not None and found[-1] < many


def right_rules(line, many):
    """True if the line tells rules, different and in their order."""
    if line == "rules":
        return True
    if not line.startswith("rules "):
        return False
    keys = []
    for piece in line[6:].split(" / "):
        told = re.fullmatch("(?:([0-7 ]+) )?> ([0-7])", piece)
        if told is None or int(told[2]) >= many:
            return False
        premise = [] if told[1] is None else numbers(told[1])
        if premise is None or any(part >= many for part in premise):
            return False
        keys.append((int(told[2]), len(premise), premise))
    return len(keys) <= 24 and all(one < other for one, other in zip(keys, keys[1:]))


def wrong_line(text):
    """The first line of the text that is wrong by point 20, None if all are right."""
    lines = text.split("\n")
    if not re.fullmatch("parts [1-8]", lines[0]):
        return 0
    many = int(lines[0][-1])
    if len(lines) < 2 or not right_set(lines[1], "early", many):
        return 1
    if len(lines) < 3 or not right_rules(lines[2], many):
        return 2
    if len(lines) < 4 or not right_set(lines[3], "stuck", many):
        return 3
    return 4 if len(lines) > 4 else None


class Texts(Case):

    def test_text(self):
        foe = Foe(3, [2, 0], [([1, 0], 2), ([], 1), ([], 0)], stuck=[1])
        self.assertEqual(foe_text(foe), "parts 3\nearly 0 2\nrules > 0 / > 1 / 0 1 > 2\nstuck 1")
        self.assertEqual(foe_text(Foe(8, [], [])), "parts 8\nearly\nrules\nstuck")

    def test_both_ways(self):
        for foe in all_foes(1):
            self.assertEqual(foe_from(foe_text(foe)), foe)
        chance = seeded(9)
        for _ in range(300):
            foe = some_foe(chance, chance.randrange(1, 9), 24)
            text = foe_text(foe)
            self.assertEqual(foe_from(text), foe)
            self.assertEqual(foe_text(foe_from(text)), text)
        full = Foe(4, [], MANY_RULES)
        self.assertEqual(foe_from(foe_text(full)), full)

    def test_near_texts(self):
        chance = seeded(10)
        accepted = 0
        foes = [Foe(1, [], []), Foe(2, [0], [([], 0), ([0], 1), ([0, 1], 1)], stuck=[1])]
        for foe in foes + [some_foe(chance, chance.randrange(1, 9)) for _ in range(15)]:
            for text in near_texts(foe_text(foe), "01234678 />\nps"):
                line = wrong_line(text)
                if line is None:
                    accepted += 1
                    self.assertEqual(foe_text(foe_from(text)), text)
                else:
                    self.raises(BadText, line, foe_from, text)
        self.assertGreater(accepted, 50)

    def test_no_text(self):
        for value in NO_TEXTS:
            self.raises(BadText, 0, foe_from, value)

    def test_wrong_lines(self):
        right = ["parts 3", "early 0 2", "rules > 0 / 0 1 > 2", "stuck"]
        foe_from("\n".join(right))
        sets = [" 3", " 0 0", " 1 0", " ", " 0  1", " 01", "0", " 0 ", " -1", " x"]
        more = foe_text(Foe(4, [], MANY_RULES)).split("\n")[2] + " / > 3"
        wrong = [
            ["parts 0", "parts 9", "parts 03", "parts", "parts ", "parts 3 ", "", "3", "Parts 3"],
            ["early" + told for told in sets],
            ["rules 0", "rules > 3", "rules 3 > 0", "rules > 0 / > 0", "rules > 1 / > 0", "rules 0 > 1 / > 1",
             "rules >0", "rules > 0/> 1", "rules  > 0", "rules 0> 1", "rules 1 0 > 2", "rules 0 0 > 2", "rules ",
             "rules > 0 / ", "rules > 0 > 1", "rules 0 > > 1", "rules > 00", more],
            ["stuck" + told for told in sets],
        ]
        for number, lines in enumerate(wrong):
            for line in lines:
                told = list(right)
                if line == more:
                    told[0] = "parts 4"
                told[number] = line
                self.raises(BadText, number, foe_from, "\n".join(told))
                for later in range(number + 1, 4):
                    both = list(told)
                    both[later] = "x"
                    self.raises(BadText, number, foe_from, "\n".join(both))

    def test_lacking_and_further_lines(self):
        right = ["parts 3", "early 0 2", "rules > 0 / 0 1 > 2", "stuck"]
        for number in range(1, 4):
            self.raises(BadText, number, foe_from, "\n".join(right[:number]))
        self.raises(BadText, 0, foe_from, "")
        self.raises(BadText, 4, foe_from, "\n".join(right) + "\n")
        self.raises(BadText, 4, foe_from, "\n".join(right + ["stuck"]))


if __name__ == "__main__":
    unittest.main()
