"""Points 24, 25 and 27: runs, forms, misfits, laying over, leaving out."""

import unittest

from deeplooks.errors import BadNumber, BadRow, BadRun, BadSet
from deeplooks.foes import Foe
from deeplooks.runs import Run, is_run, misfit
from tests.helpers import NO_INTEGERS, NO_LISTS, Case, all_foes, all_subsets, seeded, some_foe
from tests.slowruns import all_candidates, all_forms
from tests.test_growth import slow_grow


def run_of(form):
    """The Run of a form of frozensets."""
    return Run([sorted(held) for held in form[0]], [sorted(held) for held in form[1]])


def slow_misfit(foe, moments, states):
    """The first condition of point 25 that fails."""
    for gap, held in enumerate(moments):
        before = states[gap - 1] if gap else tuple(p for p in foe.early if p in held)
        if not set(before) <= set(held):
            return (gap, "kept")
        others = [part for part in range(foe.many) if part not in held]
        if max(held, default=0) >= foe.many or slow_grow(foe, before, others) != held:
            return (gap, "grown")
        if gap < len(states):
            if not set(states[gap]) <= set(held):
                return (gap, "inside")
            if any(part in foe.stuck and part not in states[gap] for part in held):
                return (gap, "stuck")
    return None


class Making(Case):

    def test_attributes(self):
        run = Run([[1, 0], (7,)], ((3, 2),))
        self.assertEqual(run.moments, ((0, 1), (7,)))
        self.assertEqual(run.states, ((2, 3),))
        self.assertEqual(len(run), 1)
        self.assertEqual(len(Run([[]], [])), 0)
        self.assertEqual(len(Run([[]] * 31, [[]] * 30)), 30)

    def test_refused(self):
        for value in NO_LISTS:
            self.raises(BadRun, -1, Run, value, [])
            self.raises(BadRun, -1, Run, [[]], value)
        for moments, states in (([], []), ([[]], [[]]), ([[], []], []), ([], [[]])):
            self.raises(BadRun, -1, Run, moments, states)
        for value in NO_LISTS + [[8], [-1], [0, 0]] + [[member] for member in NO_INTEGERS]:
            self.raises(BadRun, 0, Run, [value, value, []], [value, []])
            self.raises(BadRun, 2, Run, [[], [], value], [value, []])
            self.raises(BadRun, 3, Run, [[], [], []], [value, value])
            self.raises(BadRun, 4, Run, [[], [], []], [[], value])

    def test_copies_what_is_passed(self):
        moments, states = [[1, 0], []], [[0]]
        run = Run(moments, states)
        self.assertEqual((moments, states), ([[1, 0], []], [[0]]))
        moments[0].append(5)
        moments.append([3])
        states[0].clear()
        self.assertEqual(run, Run([[0, 1], []], [[0]]))

    def test_equal(self):
        run = Run([[0], [1]], [[]])
        self.assertTrue(run == Run(((0,), (1,)), ((),)))
        for other in (Run([[0], [1]], [[1]]), Run([[0], []], [[]]), Run([[0]], []), None, 3, ((0,),)):
            self.assertIs(run == other, False)

    def test_blank(self):
        self.assertEqual(Run.blank(0), Run([[]], []))
        self.assertEqual(Run.blank(2), Run([[], [], []], [[], []]))
        for value in NO_INTEGERS + [-1]:
            self.raises(BadNumber, "length", Run.blank, value)


class Asking(Case):

    told = Run([[0], [0, 1], [2]], [[0], [1]])

    def test_sets(self):
        self.assertEqual([self.told.bad_at(i) for i in range(2)], [(0,), (1,)])
        self.assertEqual([self.told.moment(i) for i in range(3)], [(0,), (0, 1), (2,)])
        for value in NO_INTEGERS + [-1, 3, 10 ** 40]:
            self.raises(BadRow, value, self.told.bad_at, value)
            self.raises(BadRow, value, self.told.moment, value)
        self.raises(BadRow, 2, self.told.bad_at, 2)
        self.raises(BadRow, 0, Run.blank(0).bad_at, 0)
        self.assertEqual(Run.blank(0).moment(0), ())

    def test_under(self):
        self.assertIs(self.told.under(self.told), True)
        self.assertIs(Run.blank(2).under(self.told), True)
        self.assertIs(self.told.under(Run.blank(2)), False)
        self.assertIs(Run.blank(1).under(self.told), False)
        self.assertIs(self.told.under(Run.blank(3)), False)
        self.assertIs(Run([[0], [0, 1], [2]], [[], [1]]).under(self.told), True)
        self.assertIs(Run([[0], [0, 1], [2]], [[1], [1]]).under(self.told), False)
        self.assertIs(Run([[0], [0, 1], [0]], [[0], [1]]).under(self.told), False)

    def test_dropped(self):
        self.assertEqual(self.told.dropped([]), self.told)
        self.assertEqual(self.told.dropped([0]), Run([[0, 1], [2]], [[1]]))
        self.assertEqual(self.told.dropped((1,)), Run([[0], [0, 1, 2]], [[0]]))
        self.assertEqual(self.told.dropped([1, 0]), Run([[0, 1, 2]], []))
        self.assertEqual(self.told, Run([[0], [0, 1], [2]], [[0], [1]]))
        for value in NO_LISTS + [[2], [-1], [0, 0], [True]]:
            self.raises(BadSet, "places", self.told.dropped, value)

    def test_laid_over(self):
        other = Run([[3], [], [0]], [[], [0, 4]])
        self.assertEqual(self.told | other, Run([[0, 3], [0, 1], [0, 2]], [[0], [0, 1, 4]]))
        self.assertEqual(other, Run([[3], [], [0]], [[], [0, 4]]))
        self.raises(BadRun, -1, self.told.__or__, Run.blank(1))


class Forms(Case):

    def check(self, foe, length):
        """Which candidates are runs of the foe, and why the others are not."""
        forms = all_forms(foe, length)
        for moments, states in all_candidates(foe.many, length):
            run = Run(moments, states)
            right = (tuple(map(frozenset, moments)), tuple(map(frozenset, states))) in forms
            wrong = misfit(foe, run)
            self.assertIs(is_run(foe, run), right)
            self.assertEqual(wrong is None, right)
            self.assertEqual(wrong, slow_misfit(foe, moments, states))

    def test_whole_small_foes(self):
        for foe in all_foes(1):
            for length in range(4):
                self.check(foe, length)
        for foe in all_foes(2):
            self.check(foe, 0)
            self.check(foe, 1)

    def test_longer_runs(self):
        chance = seeded(15)
        for _ in range(6):
            self.check(some_foe(chance, 2, 4), 2)
        for _ in range(6):
            self.check(some_foe(chance, 3, 5), 1)

    def test_parts_that_the_foe_does_not_have(self):
        foe = Foe(2, [0, 1], [([], 0), ([], 1)])
        self.assertEqual(misfit(foe, Run([[0, 2]], [])), (0, "grown"))
        self.assertEqual(misfit(foe, Run([[0], [0]], [[5]])), (0, "inside"))
        self.assertEqual(misfit(foe, Run([[0], [0], [7]], [[0], [0]])), (2, "kept"))
        self.assertEqual(misfit(foe, Run([[0], [0], [0, 7]], [[0], [0]])), (2, "grown"))

    def test_each_word(self):
        foe = Foe(3, [0], [([0], 1)], stuck=[1])
        self.assertEqual(misfit(foe, Run([[0], []], [[0]])), (1, "kept"))
        self.assertEqual(misfit(foe, Run([[2], []], [[]])), (0, "grown"))
        self.assertEqual(misfit(foe, Run([[0], []], [[1]])), (0, "inside"))
        self.assertEqual(misfit(foe, Run([[0, 1], []], [[0]])), (0, "stuck"))
        self.assertIsNone(misfit(foe, Run([[0, 1], [1]], [[1]])))
        # In one gap the first word of the order is told.
        self.assertEqual(misfit(foe, Run([[0], [2], []], [[0], [1]])), (1, "kept"))
        self.assertEqual(misfit(foe, Run([[2], []], [[1]])), (0, "grown"))
        self.assertEqual(misfit(foe, Run([[0, 1], []], [[2]])), (0, "inside"))

    def test_facts(self):
        chance = seeded(16)
        for _ in range(12):
            foe = some_foe(chance, 2, 4)
            larger = foe | some_foe(chance, 2, 2)
            runs = [run_of(form) for form in all_forms(foe, 2)]
            runs = chance.sample(runs, min(len(runs), 25))
            for one in runs:
                self.assertTrue(is_run(larger, one))
                for places in all_subsets(range(2)):
                    self.assertTrue(is_run(foe, one.dropped(places)))
                for other in runs:
                    self.assertTrue(is_run(foe, one | other))
                    self.assertTrue(one.under(one | other))

    def test_parts_taken_out(self):
        chance = seeded(17)
        for _ in range(10):
            foe = some_foe(chance, 3, 5)
            for parts in all_subsets(range(3)):
                never = {form for form in all_forms(foe, 1)
                         if not any(held & set(parts) for held in form[0] + form[1])}
                self.assertEqual(all_forms(foe.less(parts), 1), never)


if __name__ == "__main__":
    unittest.main()
