"""Point 95: bars, held, the barred run."""

import unittest

from deeplooks.barring import barred_run, held, look_bars
from deeplooks.errors import BadNumber, BadSet
from deeplooks.foes import Foe
from deeplooks.growth import grow
from deeplooks.runs import is_run
from tests.helpers import NO_INTEGERS, NO_LISTS, ODD, Case, seeded, some_foe
from tests.slowsieve import Forms, keeping, run_of, small_foes, union

NO_BARS = [[None], [0], [(0,)], [(0, 0, 0)], [("0", 0)], [(0, True)], [(False, 0)], [(0, 2)], [(-1, 0)], [(0, -1)],
           [(0, 0), ODD], ["00"], [{0: 0, 1: 1}], [(0, None)], [(None, 0)]]


def some_bars(chance, length, many, most=4):
    """Bars for runs of this length, one twice now and then."""
    bars = [(chance.randrange(length), chance.randrange(many)) for _ in range(chance.randrange(most + 1))] if length else []
    return bars + bars[:1] if chance.random() < 0.3 else bars


class Held(Case):

    def test_held(self):
        chance = seeded(102)
        for _ in range(100):
            foe = some_foe(chance, 4)
            bars = some_bars(chance, 16, 4, 6)
            for gap in range(17):
                right = tuple(sorted({part for i, part in bars if i >= gap and part in foe.stuck}))
                self.assertEqual(held(foe, [list(bar) for bar in bars], gap), right)

    def test_errors(self):
        foe = Foe(2, [0], [], stuck=[1])
        for value in NO_LISTS + NO_BARS + [[(16, 0)]]:
            self.raises(BadSet, "bars", held, foe, value, None)
        for value in NO_INTEGERS + [-1, 17]:
            self.raises(BadNumber, "gap", held, foe, [(15, 1)], value)
        self.assertEqual(held(foe, [(15, 1), (3, 0)], 15), (1,))
        self.assertEqual(held(foe, [(15, 1)], 16), ())
        self.assertEqual(held(foe, (), 0), ())


class Barred(Case):

    def test_small_foes_whole(self):
        bars = [(i, part) for i in range(2) for part in range(2)]
        for foe in small_foes():
            forms = Forms(foe)
            for chosen in range(16):
                told = [bar for k, bar in enumerate(bars) if chosen >> k & 1]
                self.check(foe, forms.of(2), 2, told)
            self.check(foe, forms.of(0), 0, [])
            self.check(foe, forms.of(1), 1, [(0, 1)])

    def test_three_parts(self):
        chance = seeded(103)
        for _ in range(25):
            foe = some_foe(chance, 3, 5)
            forms = Forms(foe).of(2)
            for _ in range(8):
                self.check(foe, forms, 2, some_bars(chance, 2, 3))

    def check(self, foe, forms, length, bars):
        """The barred run is a run that keeps the bars, and the union of all such."""
        run = barred_run(foe, length, bars)
        kept = keeping(forms, bars)
        self.assertEqual(run, run_of(union(kept, length)))
        self.assertTrue(is_run(foe, run))
        self.assertFalse(any(part in run.states[i] for i, part in bars))

    def test_by_the_words_of_the_point(self):
        chance = seeded(104)
        for _ in range(200):
            foe = some_foe(chance, 6, 12)
            length = chance.randrange(17)
            bars = some_bars(chance, length, 6, 10)
            run = barred_run(foe, length, bars)
            bad = tuple(part for part in foe.early if part not in held(foe, bars, 0))
            for i in range(length):
                most = grow(foe, bad, held(foe, bars, i))
                self.assertEqual(run.moments[i], most)
                bad = tuple(part for part in most if (i, part) not in bars)
                self.assertEqual(run.states[i], bad)
            self.assertEqual(run.moments[length], grow(foe, bad))

    def test_more_bars(self):
        chance = seeded(105)
        for _ in range(100):
            foe = some_foe(chance, 5, 10)
            bars = some_bars(chance, 6, 5, 8)
            fewer = [bar for bar in bars if chance.random() < 0.6]
            self.assertTrue(barred_run(foe, 6, bars).under(barred_run(foe, 6, fewer)))

    def test_errors(self):
        foe = Foe(2, [0], [])
        for value in NO_INTEGERS + [-1, 17]:
            self.raises(BadNumber, "length", barred_run, foe, value, None)
        for value in NO_LISTS + NO_BARS + [[(3, 0)]]:
            self.raises(BadSet, "bars", barred_run, foe, 3, value)
        self.raises(BadSet, "bars", barred_run, foe, 0, [(0, 0)])
        bars = [[0, 0]]
        barred_run(foe, 1, bars)
        self.assertEqual(bars, [[0, 0]])


class LookBars(Case):

    def test_look_bars(self):
        line = [(0, 1), None, [7, 7], (3, 2)]
        self.assertEqual(look_bars(line, [3, 0, 1, 2]), ((0, 1), (2, 7), (3, 2)))
        self.assertEqual(look_bars(line, (1,)), ())
        self.assertEqual(look_bars(line, ()), ())
        self.assertEqual(look_bars([], []), ())
        for value in NO_LISTS + [[4], [-1], [0, 0], [True], [None]]:
            self.raises(BadSet, "positions", look_bars, line, value)


if __name__ == "__main__":
    unittest.main()
