"""Points 22 and 26: deeds, the fewest of a run, runs that are played."""

import unittest

from deeplooks.deeds import deeds_many, played, run_deeds
from deeplooks.errors import BadDeed, BadRun, BadSet
from deeplooks.foes import Foe
from deeplooks.runs import Run, is_run, misfit
from tests.helpers import NO_INTEGERS, NO_LISTS, ODD, Case, all_foes, seeded, some_foe
from tests.slowruns import all_candidates, all_forms, allowed
from tests.test_runs import run_of


def fewest(foe, run):
    """The least number of parts of a start and deeds that make the run, gone through whole."""
    front = {}
    for start in [frozenset(foe.early) & frozenset(run.moments[0])]:
        front[(start, start)] = len(start)
    for gap, moments in enumerate(run.moments):
        front = walked(foe, front)
        front = {(bad, seen): price for (bad, seen), price in front.items() if seen == set(moments)}
        if gap < len(run.states):
            front = {(bad, bad): price for (bad, seen), price in front.items() if bad == set(run.states[gap])}
    return min(front.values())


def walked(foe, front):
    """The cheapest prices of all that deeds lead to from these pairs of bad set and moments."""
    best = dict(front)
    waiting = sorted(best, key=lambda pair: best[pair])
    while waiting:
        bad, seen = waiting.pop(0)
        for _, after in allowed(foe, bad):
            pair = (after, seen | after)
            price = best[(bad, seen)] + 1
            if price < best.get(pair, 10 ** 9):
                best[pair] = price
                waiting.append(pair)
    return best


class Deeds(Case):

    def check(self, foe, run):
        """The deeds of a run give it again, and are as few as point 26 tells."""
        start, gaps = run_deeds(foe, run)
        self.is_tuple_set(start)
        self.assertEqual(start, tuple(part for part in foe.early if part in run.moments[0]))
        self.assertIs(type(gaps), tuple)
        self.assertEqual(len(gaps), len(run) + 1)
        self.assertEqual(played(foe, start, gaps), run)
        before = start
        for gap, deeds in enumerate(gaps):
            self.assertIs(type(deeds), tuple)
            words = [deed[0] for deed in deeds]
            held = set(run.moments[gap])
            new = len(held - set(before))
            mends = len(held - set(run.states[gap])) if gap < len(run) else 0
            self.assertEqual(words, ["corrupt"] * new + ["mend"] * mends)
            before = run.states[gap] if gap < len(run) else ()
        self.assertEqual(deeds_many(start, gaps), fewest(foe, run))

    def test_whole_small_foes(self):
        for foe in all_foes(1):
            for length in range(3):
                self.go_through(foe, length)
        for foe in all_foes(2):
            self.go_through(foe, 1)

    def go_through(self, foe, length):
        """Each run of the foe has deeds, and what is no run of it is refused."""
        for moments, states in all_candidates(foe.many, length):
            run = Run(moments, states)
            wrong = misfit(foe, run)
            if wrong is None:
                self.check(foe, run)
            else:
                self.raises(BadRun, wrong[0], run_deeds, foe, run)

    def test_longer_runs(self):
        chance = seeded(18)
        for _ in range(8):
            foe = some_foe(chance, 3, 5)
            forms = sorted(all_forms(foe, 2), key=str)
            for form in chance.sample(forms, min(len(forms), 12)):
                self.check(foe, run_of(form))

    def test_what_is_played_is_a_run(self):
        chance = seeded(19)
        for _ in range(300):
            foe = some_foe(chance, 4, 6)
            bad = frozenset(part for part in foe.early if chance.random() < 0.5)
            start, gaps, moments, states = sorted(bad), [], [], []
            for _ in range(chance.randrange(1, 5)):
                deeds, seen = [], bad
                for _ in range(chance.randrange(5)):
                    choice = list(allowed(foe, bad))
                    if choice:
                        deed, bad = chance.choice(choice)
                        deeds.append(list(deed) if chance.random() < 0.5 else deed)
                        seen |= bad
                gaps.append(deeds)
                moments.append(sorted(seen))
                states.append(sorted(bad))
            run = played(foe, start, gaps)
            self.assertEqual(run, Run(moments, states[:-1]))
            self.assertTrue(is_run(foe, run))
            again = run_deeds(foe, run)
            self.assertEqual(played(foe, again[0], again[1]), run)
            self.assertLessEqual(deeds_many(again[0], again[1][:-1]), deeds_many(start, gaps))

    def test_empty_runs(self):
        foe = Foe(2, [1], [])
        self.assertEqual(played(foe, [], [[]]), Run.blank(0))
        self.assertEqual(played(foe, (1,), ([], ())), Run([[1], [1]], [[1]]))
        self.assertEqual(run_deeds(foe, Run.blank(2)), ((), ((), (), ())))

    def test_deeds_many(self):
        self.assertEqual(deeds_many((), ((),)), 0)
        self.assertEqual(deeds_many([0, 2], [[("mend", 0)], [], [("corrupt", 0), ("mend", 0)]]), 5)

    def test_wrong_starts(self):
        foe = Foe(3, [0, 2], [])
        for value in NO_LISTS + [[1], [0, 1], [3], [0, 0], [-1], [True]]:
            self.raises(BadSet, "start", played, foe, value, [[None]])
        self.assertEqual(played(foe, [2, 0], [[]]).moments, ((0, 2),))

    def test_wrong_deeds(self):
        foe = Foe(3, [0], [([0], 1)], stuck=[1])
        right = [("corrupt", 1), ["mend", 0]]
        self.assertEqual(played(foe, [0], [right, []]), Run([[0, 1], [1]], [[1]]))
        wrong = [("corrupt", 0), ("mend", 1), ("corrupt", 2), ("mend", 2), ("Mend", 0), ("mend",), ("mend", 0, 0),
                 ("mend", 3), ("mend", -1), (0, "mend"), "mend", {"mend": 0}, (ODD, 0), ([], 0), ((), 0)]
        wrong = wrong + NO_LISTS + [("mend", member) for member in NO_INTEGERS]
        for deed in wrong:
            self.raises(BadDeed, (0, 0), played, foe, [0], [[deed]])
            self.raises(BadDeed, (1, 1), played, foe, [0], [[right[0]], [right[1], deed, None], [None]])
        # The part is good, but the rule needs what is mended by then.
        self.raises(BadDeed, (0, 1), played, foe, [0], [[("mend", 0), ("corrupt", 1)]])
        self.raises(BadDeed, (0, 1), played, foe, [0], [[("corrupt", 1), ("mend", 1)]])
        # What is bad already is not corrupted again, what is good not mended.
        self.raises(BadDeed, (0, 1), played, foe, [0], [[("corrupt", 1), ("corrupt", 1)]])
        self.raises(BadDeed, (1, 0), played, foe, [0], [[("mend", 0)], [("mend", 0)]])

    def test_changes_nothing(self):
        foe = Foe(2, [0], [([0], 1)])
        start, gaps = [0], [[["corrupt", 1]], []]
        run = played(foe, start, gaps)
        self.assertEqual((start, gaps), ([0], [[["corrupt", 1]], []]))
        gaps[0].clear()
        start.clear()
        self.assertEqual(run, Run([[0, 1], [0, 1]], [[0, 1]]))

    def test_first_wrong_gap(self):
        foe = Foe(2, [0], [])
        self.raises(BadRun, 1, run_deeds, foe, Run([[0], [1], [7]], [[], []]))
        self.raises(BadRun, 0, run_deeds, foe, Run([[1]], []))


if __name__ == "__main__":
    unittest.main()
