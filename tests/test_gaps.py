"""Points 22 and 23: deeds, gaps, their moments."""

import unittest

from deeplooks.errors import BadSet
from deeplooks.foes import Foe
from deeplooks.gaps import can_be, gap_deeds, gap_most
from deeplooks.growth import grow
from tests.helpers import NO_LISTS, Case, all_foes, all_subsets, seeded, some_foe
from tests.slowruns import allowed, gap_ends


class Gaps(Case):

    def check(self, foe):
        """All gaps of a foe."""
        sets = all_subsets(range(foe.many))
        for before in sets:
            ends = gap_ends(foe, before)
            for behind in sets:
                moments = [seen for seen, after in ends if after == set(behind)]
                self.check_pair(foe, before, behind, moments)
                for middle in sets:
                    self.assertIs(can_be(foe, before, middle, behind), frozenset(middle) in moments)

    def check_pair(self, foe, before, behind, moments):
        """The most of the gaps from before to behind, and deeds that make it."""
        most = gap_most(foe, before, behind)
        deeds = gap_deeds(foe, before, behind)
        if not moments:
            self.assertIsNone(most)
            self.assertIsNone(deeds)
            return
        self.assertEqual(set(most), frozenset().union(*moments))
        self.assertIn(frozenset(most), moments)
        stopped = [part for part in foe.stuck if part not in behind]
        self.assertEqual(most, grow(foe, before, stopped))
        self.assertIs(type(deeds), tuple)
        corruptions = len(set(most) - set(before))
        mends = len(set(most) - set(behind))
        self.assertEqual([deed[0] for deed in deeds], ["corrupt"] * corruptions + ["mend"] * mends)
        bad, seen = frozenset(before), frozenset(before)
        for deed in deeds:
            self.assertIs(type(deed), tuple)
            bad = dict(allowed(foe, bad))[deed]
            seen |= bad
        self.assertEqual((bad, seen), (frozenset(behind), frozenset(most)))

    def test_whole_small_foes(self):
        for foe in all_foes(1):
            self.check(foe)
        for foe in all_foes(2):
            if foe.early == ():
                self.check(foe)

    def test_larger_foes(self):
        chance = seeded(14)
        for _ in range(25):
            self.check(some_foe(chance, 3, 6))
        for _ in range(4):
            self.check(some_foe(chance, 4, 8))

    def test_stuck(self):
        foe = Foe(2, [], [([0], 1)], stuck=[1])
        self.assertEqual(gap_most(foe, [0], [0]), (0,))
        self.assertEqual(gap_most(foe, [0], [1]), (0, 1))
        self.assertIsNone(gap_most(foe, [1], []))
        self.assertEqual(gap_deeds(foe, [0], [1]), (("corrupt", 1), ("mend", 0)))
        self.assertEqual(gap_deeds(foe, [], []), ())
        self.assertFalse(can_be(foe, [0], [0, 1], [0]))

    def test_refused(self):
        foe = Foe(2, [], [([], 0)])
        for value in NO_LISTS + [[2], [-1], [0, 0], [True], ["0"], [None]]:
            for call in (gap_most, gap_deeds):
                self.raises(BadSet, "before", call, foe, value, value)
                self.raises(BadSet, "behind", call, foe, [0], value)
            self.raises(BadSet, "before", can_be, foe, value, value, value)
            self.raises(BadSet, "moments", can_be, foe, [0], value, value)
            self.raises(BadSet, "behind", can_be, foe, [0], [0], value)

    def test_changes_nothing(self):
        foe = Foe(2, [], [([0], 1)])
        before, behind, moments = [0], [1], [1, 0]
        self.assertEqual(gap_most(foe, before, behind), (0, 1))
        self.assertEqual(gap_deeds(foe, before, behind), (("corrupt", 1), ("mend", 0)))
        self.assertIs(can_be(foe, before, moments, behind), True)
        self.assertEqual((before, behind, moments), ([0], [1], [1, 0]))


if __name__ == "__main__":
    unittest.main()
