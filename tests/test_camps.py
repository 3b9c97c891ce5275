"""Point 185: camps, met in time or never, the longest pace."""

import unittest

from deeplooks.camps import camp, is_camp, longest_pace
from deeplooks.errors import BadFoe
from deeplooks.foes import Foe
from deeplooks.systems import System
from deeplooks.tours import left_after, met
from tests.helpers import NO_LISTS, ODD, Case, all_subsets, seeded
from tests.slowtours import sets_by_the_words, some_case


def staying(foe):
    """The foe with an early set out of which no rule leads."""
    early = set(foe.early)
    while True:
        more = early | {p for q, p in foe.rules if set(q) <= early}
        if more == early:
            return Foe(foe.many, sorted(early), foe.rules)
        early = more


def is_camp_by_the_words(system, foe, tour, pace, parts):
    """True if the parts are a camp."""
    left = sets_by_the_words(system, foe, tour, pace, len(tour), parts)[-1]
    return bool(parts) and set(parts) <= set(foe.early) and set(parts) <= left


class Camps(Case):

    def test_all_sets_of_parts(self):
        chance = seeded(430)
        told = {}
        for _ in range(250):
            system, foe, tour, pace = some_case(chance, 6, 3, 4)
            foe = staying(foe)
            camps = [parts for parts in all_subsets(range(system.many))
                     if is_camp_by_the_words(system, foe, tour, pace, parts)]
            for parts in all_subsets(range(system.many)):
                self.assertIs(is_camp(system, foe, tour, pace, list(parts)[::-1]), parts in camps)
            found = camp(system, foe, tour, pace)
            self.is_tuple_set(found)
            self.assertEqual(found, max(camps, key=len) if camps else ())
            self.assertTrue(all(set(parts) <= set(found) for parts in camps))
            never = met(system, foe, tour, pace) is None
            self.assertEqual(never, bool(camps))
            told[never] = told.get(never, 0) + 1
            if not never:
                self.assertLessEqual(met(system, foe, tour, pace), len(tour) * len(foe.early))
            turns = left_after(system, foe, tour, pace, len(tour) * (len(foe.early) + 1))[::len(tour)]
            self.assertTrue(all(set(later) <= set(earlier) for earlier, later in zip(turns, turns[1:])))
            self.assertEqual(turns[-1], found)
        self.assertGreater(min(told.values()), 50)

    def test_a_rule_that_leads_out_of_early(self):
        chance = seeded(431)
        told = {}
        for _ in range(200):
            system, foe, tour, pace = some_case(chance, 6, 3, 4)
            leads = any(set(q) <= set(foe.early) and p not in foe.early for q, p in foe.rules)
            told[leads] = told.get(leads, 0) + 1
            if leads:
                self.raises(BadFoe, "early", camp, system, foe, tour, pace)
                self.raises(BadFoe, "early", is_camp, system, foe, tour, pace, None)
            else:
                camp(system, foe, tour, pace)
        self.assertGreater(min(told.values()), 40)
        # A premise that is not all early leads out of nothing.
        self.assertEqual(camp(System(1, [0] * 3, [[]] * 3, [0]), Foe(3, [0], [([0, 1], 2)]), [[]], 1), (0,))

    def test_values_of_any_kind(self):
        system, foe = System(1, [0] * 3, [[]] * 3, [0]), Foe(3, [0, 1], [])
        self.assertIs(is_camp(system, foe, [[(0, 1), (1, 0)]], 0, [1, 0]), True)
        for value in NO_LISTS + [[], (), [2], [0, 1, 2], [0, 0], [3], [-1], [True], [None], [ODD], [[0]]]:
            self.assertIs(is_camp(system, foe, [[(0, 1), (1, 0)]], 0, value), False)
        self.assertEqual(camp(system, Foe(3, [], []), [[]], 0), ())

    def test_the_longest_pace(self):
        chance = seeded(432)
        told = {}
        for _ in range(250):
            system, foe, tour, _ = some_case(chance, 7, 3, 6)
            good = [pace for pace in range(21) if met(system, foe, tour, pace) is not None]
            found = longest_pace(system, foe, tour)
            many = system.many
            self.assertEqual(found, max((pace for pace in good if pace <= many), default=None))
            self.assertEqual(good, [] if found is None else list(range(21)) if found == many else list(range(found + 1)))
            told[found is None, found == 0, found == many] = True
        self.assertEqual(len(told), 3)
        # Who must move on by two, or three, parts in each round is met at all smaller paces.
        system, foe = System(1, [0] * 7, [[]] * 7, [0]), Foe(7, [0], [([k], (k + 1) % 6) for k in range(6)])
        for by in (2, 3):
            tour = [[(6, k) for k in range(6) if k != by * i % 6] for i in range(1, 1 + 6 // by)]
            self.assertEqual(longest_pace(system, foe, tour), by - 1)
        # At pace 0 met, and at pace 1 never.
        system = System(1, [0] * 3, [[]] * 3, [0])
        foe = Foe(3, [1], [([1], 2), ([2], 1)])
        self.assertEqual(longest_pace(system, foe, [[(0, 1)], [(0, 2)]]), 0)


if __name__ == "__main__":
    unittest.main()
