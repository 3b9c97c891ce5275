"""Points 7 to 9: systems, System.standing, side by side."""

import unittest

from deeplooks.errors import BadNumber, BadSet, BadSystem
from deeplooks.systems import System
from tests.helpers import NO_INTEGERS, NO_LISTS, Case, all_subsets, seeded, some_system


class Making(Case):

    def test_attributes(self):
        system = System(2, [0, 1, 0], [[2], (1, 0), []], (2, 1))
        self.assertEqual(system.places, 2)
        self.assertEqual(system.homes, (0, 1, 0))
        self.assertEqual(system.needs, ((0, 2), (0, 1), (2,)))
        self.assertEqual(system.managers, (2, 1))
        self.assertEqual(system.many, 3)

    def test_bounds(self):
        self.assertEqual(System(1, [0], [[]], [0]).many, 1)
        self.assertEqual(System(1, [0] * 8, [[]] * 8, [7]).many, 8)
        self.assertEqual(System(4, [3, 2, 1, 0], [[]] * 4, [3, 2, 1, 0]).places, 4)
        self.raises(BadSystem, "homes", System, 1, [0] * 9, [[]] * 9, [0])
        self.raises(BadSystem, "homes", System, 1, [], [], [])
        self.raises(BadSystem, "places", System, 0, [0], [[]], [0])
        self.raises(BadSystem, "places", System, 5, [0, 1, 2, 3, 4], [[]] * 5, [0, 1, 2, 3, 4])

    def test_wrong_places(self):
        for value in NO_INTEGERS + [-1, 0, 5]:
            self.raises(BadSystem, "places", System, value, [0], [[]], [0])
            self.raises(BadSystem, "places", System.standing, value, [0], [[]], [0])

    def test_wrong_homes(self):
        for value in NO_LISTS + [[], [1], [-1], [0] * 9] + [[member] for member in NO_INTEGERS]:
            self.raises(BadSystem, "homes", System, 1, value, [[]], [0])
            self.raises(BadSystem, "homes", System.standing, 1, value, [[]], [0])

    def test_wrong_needs(self):
        wrong = NO_LISTS + [[], [[]], [[], [], []], [[], 0], [[], [2]], [[], [-1]], [[], [0, 0]], [[], {0}]]
        wrong = wrong + [[[], [member]] for member in NO_INTEGERS]
        for value in wrong:
            self.raises(BadSystem, "needs", System, 1, [0, 0], value, [0])
            self.raises(BadSystem, "needs", System.standing, 1, [0, 0], value, [0])

    def test_wrong_managers(self):
        wrong = NO_LISTS + [[], [0], [1, 0], [0, 0], [0, 2], [0, -1], [0, 1, 1]]
        wrong = wrong + [[member, 1] for member in NO_INTEGERS if member != 0]
        for value in wrong:
            self.raises(BadSystem, "managers", System, 2, [0, 1], [[], []], value)
            self.raises(BadSystem, "managers", System.standing, 2, [0, 1], [[], []], value)
        # A place without a part has no manager, so there is no such system.
        self.raises(BadSystem, "managers", System, 2, [0, 0], [[], []], [0, 1])

    def test_first_fault_is_told(self):
        right = [2, [0, 1], [[], []], [0, 1]]
        wrong = [9, [0, 7], [[], [5]], [1, 0]]
        names = ["places", "homes", "needs", "managers"]
        for made in (System, System.standing):
            for first in range(4):
                for second in range(first, 4):
                    told = list(right)
                    told[first] = wrong[first]
                    told[second] = wrong[second]
                    self.raises(BadSystem, names[first], made, *told)

    def test_copies_what_is_passed(self):
        homes, needs, managers = [0, 0], [[1], []], [0]
        for made in (System, System.standing):
            system = made(1, homes, needs, managers)
            homes[0] = 5
            needs[0].append(7)
            needs[1] = None
            managers.clear()
            self.assertEqual(system, made(1, [0, 0], [[1], []], [0]))
            homes, needs, managers = [0, 0], [[1], []], [0]

    def test_changes_nothing_that_is_passed(self):
        homes, needs, managers = [0, 0], [[1], []], [0]
        System(1, homes, needs, managers)
        System.standing(1, homes, needs, managers)
        self.assertEqual((homes, needs, managers), ([0, 0], [[1], []], [0]))


class Asking(Case):

    system = System(2, [0, 1, 0], [[2], [0], []], [0, 1])

    def test_at_home(self):
        self.assertEqual(self.system.at_home(0), (0, 2))
        self.assertEqual(self.system.at_home(1), (1,))
        for value in NO_INTEGERS + [-1, 2]:
            self.raises(BadNumber, "place", self.system.at_home, value)

    def test_void(self):
        for a in range(3):
            for b in range(3):
                self.assertIs(self.system.void(a, b), b in self.system.needs[a])
            self.assertIs(self.system.void(a, a), True)
        for value in NO_INTEGERS + [-1, 3]:
            self.raises(BadNumber, "part", self.system.void, value, 0)
            self.raises(BadNumber, "part", self.system.void, 0, value)

    def test_grounded(self):
        for a in range(3):
            for bad in all_subsets(range(3)):
                right = not set(self.system.needs[a]) & set(bad)
                self.assertIs(self.system.grounded(a, bad), right)
                self.assertIs(self.system.grounded(a, list(reversed(bad))), right)
        for value in NO_INTEGERS + [-1, 3]:
            self.raises(BadNumber, "part", self.system.grounded, value, None)
            self.raises(BadSet, "bad", self.system.grounded, 0, [value])
        for value in NO_LISTS + [[1, 1]]:
            self.raises(BadSet, "bad", self.system.grounded, 0, value)

    def test_equal(self):
        same = System(2, (0, 1, 0), ((0, 2), (1, 0), (2,)), (0, 1))
        self.assertTrue(self.system == same)
        self.assertFalse(self.system != same)
        others = [System(2, [0, 1, 0], [[2], [0], [1]], [0, 1]), System(2, [0, 1, 0], [[2], [0], []], [2, 1]),
                  System(2, [0, 1, 1], [[2], [0], []], [0, 1]), System(1, [0], [[]], [0]), None, 0, "x"]
        for other in others:
            self.assertIs(self.system == other, False)


class Standing(Case):

    def test_needs_are_what_is_reached(self):
        chance = seeded(4)
        for _ in range(200):
            many = chance.randrange(1, 9)
            direct = [chance.sample(range(many), chance.randrange(min(many, 3))) for _ in range(many)]
            needs = System.standing(1, [0] * many, direct, [0]).needs
            for a in range(many):
                reached = {a}
                for _ in range(many):
                    reached = reached | {y for x in reached for y in direct[x]}
                self.assertEqual(needs[a], tuple(sorted(reached)))
                for x in needs[a]:
                    self.assertTrue(set(needs[x]) <= set(needs[a]))
                for b in range(many):
                    both = a in needs[b] and b in needs[a]
                    self.assertEqual(needs[a] == needs[b], both)

    def test_ring(self):
        self.assertEqual(System.standing(1, [0] * 3, [[1], [2], [0]], [0]).needs, ((0, 1, 2),) * 3)


class SideBySide(Case):

    def test_joined(self):
        one = System(2, [0, 1], [[1], []], [0, 1])
        other = System(1, [0, 0, 0], [[2], [], [1]], [2])
        whole = one + other
        self.assertEqual(whole.places, 3)
        self.assertEqual(whole.homes, (0, 1, 2, 2, 2))
        self.assertEqual(whole.needs, ((0, 1), (1,), (2, 4), (3,), (3, 4)))
        self.assertEqual(whole.managers, (0, 1, 4))
        self.assertEqual(one, System(2, [0, 1], [[1], []], [0, 1]))
        self.assertEqual(other, System(1, [0, 0, 0], [[2], [], [1]], [2]))

    def test_grounded_as_before(self):
        chance = seeded(5)
        tried = 0
        while tried < 60:
            one, other = some_system(chance), some_system(chance)
            if one.many + other.many > 8 or one.places + other.places > 4:
                continue
            tried += 1
            whole = one + other
            bad = [part for part in range(whole.many) if chance.random() < 0.3]
            left = [part for part in bad if part < one.many]
            right = [part - one.many for part in bad if part >= one.many]
            for part in range(one.many):
                self.assertEqual(whole.grounded(part, bad), one.grounded(part, left))
            for part in range(other.many):
                self.assertEqual(whole.grounded(part + one.many, bad), other.grounded(part, right))

    def test_associative(self):
        a = System(1, [0, 0], [[1], []], [1])
        b = System(2, [1, 0], [[], [0]], [1, 0])
        c = System(1, [0], [[]], [0])
        self.assertEqual((a + b) + c, a + (b + c))

    def test_refused(self):
        four = System(1, [0] * 4, [[]] * 4, [0])
        five = System(1, [0] * 5, [[]] * 5, [0])
        self.assertEqual((four + four).many, 8)
        self.raises(BadSystem, "homes", four.__add__, five)
        wide = System(3, [0, 1, 2], [[]] * 3, [0, 1, 2])
        two = System(2, [0, 1], [[]] * 2, [0, 1])
        self.raises(BadSystem, "places", wide.__add__, two)
        self.assertEqual((two + two).places, 4)
        large = System(3, [0, 1, 2, 2, 2, 2, 2], [[]] * 7, [0, 1, 2])
        self.raises(BadSystem, "homes", large.__add__, two)


if __name__ == "__main__":
    unittest.main()
