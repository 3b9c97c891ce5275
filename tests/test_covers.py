"""Points 91 to 93: lines, covered for the hearer, honestly bad, heard, aims."""

import unittest

from deeplooks.covers import Hearing, check_aim, check_line, first_heard, honest_bad, reaches, unheard
from deeplooks.errors import BadAim, BadFoe, BadLine, BadRow, BadRun
from deeplooks.foes import Foe
from deeplooks.runs import Run
from deeplooks.sieves import clean_rows, goings, is_peel, once, peel, sieve
from deeplooks.barring import look_bars
from deeplooks.descents import descent, is_descent
from deeplooks.plays import plays_of, within
from deeplooks.systems import System
from tests.helpers import NO_INTEGERS, NO_LISTS, ODD, Case, all_subsets, seeded
from tests.slowsieve import heard_at, one_place, small_lines, small_systems, some_line

SYSTEM = System(1, [0, 0, 0], [[0], [1], [0, 2]], [0])
WRONG_PLACES = [True, False, 0, "01", (0,), (0, 1, 2), [0, -1], (0, True), (None, 0), {0: 1}, ODD, (0, 1.0), ()]


class BareAim(Case):

    def no_aim(self, call, *args, **more):
        """The call raises BadAim, which has no name and no place."""
        with self.assertRaises(BadAim) as caught:
            call(*args, **more)
        self.assertEqual(str(caught.exception), "BadAim")
        self.assertFalse(hasattr(caught.exception, "name") or hasattr(caught.exception, "place"))


class Lines(Case):

    def test_lines(self):
        self.assertEqual(check_line(SYSTEM, [None, [0, 1], (2, 2)]), (None, (0, 1), (2, 2)))
        self.assertEqual(check_line(SYSTEM, ()), ())
        sixteen = [None, (0, 1)] * 8
        found = check_line(SYSTEM, sixteen)
        self.assertEqual(found, tuple(sixteen))
        self.assertIs(type(found), tuple)
        self.raises(BadLine, -1, check_line, SYSTEM, sixteen + [None])
        self.raises(BadLine, -1, check_line, SYSTEM, [ODD] * 17)

    def calls(self):
        """All functions of the section with a line, each as a call with a line alone and its many parts."""
        foe, run = Foe(3, [0], []), Run.blank(0)
        return [(lambda line: check_line(SYSTEM, line), 3), (lambda line: Hearing(SYSTEM, line), 3),
                (lambda line: honest_bad(SYSTEM, line, run, None), 3), (lambda line: unheard(SYSTEM, line, run), 3),
                (lambda line: first_heard(SYSTEM, line, run), 3), (lambda line: check_aim(line, None), 8),
                (lambda line: reaches(line, run, None), 8), (lambda line: look_bars(line, None), 8),
                (lambda line: sieve(foe, line, None, bars=None), 3), (lambda line: goings(foe, line, None), 3),
                (lambda line: peel(foe, line, None, None), 3), (lambda line: is_peel(foe, line, None, None, None), 3),
                (lambda line: once(SYSTEM, Foe(2, [], []), line), 3),
                (lambda line: clean_rows(SYSTEM, Foe(2, [], []), line), 3),
                (lambda line: descent(SYSTEM, line, run, None), 3),
                (lambda line: is_descent(SYSTEM, line, run, None), 3),
                (lambda line: within(SYSTEM, Foe(2, [], []), line, None), 3),
                (lambda line: plays_of(SYSTEM, Foe(2, [], []), line, None, None), 3)]

    def test_each_function_checks_the_line_first(self):
        for call, many in self.calls():
            for value in NO_LISTS + [[None] * 17]:
                self.raises(BadLine, -1, call, value)
            for place in WRONG_PLACES + [(0, many), (many, 0)]:
                self.raises(BadLine, 0, call, [place])
                self.raises(BadLine, 2, call, (None, (many - 1, 0), place, ODD))

    def test_the_foe_of_unlike_many_comes_next(self):
        small = Foe(2, [], [], stuck=[0])
        for call, more in [(once, ()), (clean_rows, ())]:
            self.raises(BadFoe, "many", call, SYSTEM, small, [(0, 0)], *more)
        self.raises(BadFoe, "many", within, SYSTEM, small, [(0, 0)], None)
        self.raises(BadFoe, "many", plays_of, SYSTEM, small, [(0, 0)], None, None)


class Covers(BareAim):

    def test_hearing(self):
        line = [[2, 1], None, (1, 0)]
        hearing = Hearing(SYSTEM, line)
        self.assertIs(hearing.system, SYSTEM)
        self.assertEqual(hearing.line, ((2, 1), None, (1, 0)))
        line.clear()
        run = Run([[0, 1]] * 4, [[0, 1], [0, 1], [0]])
        self.assertEqual([hearing(run, i) for i in range(3)], [True, True, False])
        self.assertIs(hearing(Run.blank(3), 0), False)
        self.raises(BadRun, -1, hearing, Run.blank(2), None)
        for value in NO_INTEGERS + [-1, 3]:
            self.raises(BadRow, value, hearing, run, value)

    def test_small_ones_whole(self):
        sets = all_subsets(range(2))
        for system in small_systems():
            for line in small_lines(2):
                for states in [(one, two) for one in sets for two in sets]:
                    self.check(system, line, Run([states[0], [0, 1], ()], states))

    def test_larger_ones(self):
        chance = seeded(100)
        for _ in range(300):
            system = one_place(chance, 5)
            length = chance.randrange(7)
            line = some_line(chance, 5, length)
            states = [chance.sample(range(8), chance.randrange(5)) for _ in range(length)]
            self.check(system, line, Run([[]] + states, states))

    def check(self, system, line, run):
        """What is told of the run on the line is what point 92 says."""
        heard = heard_at(system, line, run.states)
        hearing = Hearing(system, line)
        for i, look in enumerate(line):
            self.assertIs(honest_bad(system, line, run, i), i in heard)
            covered = look is None or any(part in run.states[i] for part in system.needs[look[0]])
            self.assertIs(hearing(run, i), covered)
        self.assertIs(unheard(system, line, run), not heard)
        self.assertEqual(first_heard(system, line, run), heard[0] if heard else None)

    def test_void_looks_are_never_honestly_bad(self):
        system = System(1, [0, 0], [[0, 1], [1]], [0])
        for look in [(0, 0), (0, 1), (1, 1)]:
            for bad in all_subsets(range(2)):
                self.assertIs(unheard(system, [look], Run([bad, bad], [bad])), True)

    def test_more_bad_parts_never_take_a_cover_away(self):
        chance = seeded(101)
        for _ in range(200):
            system = one_place(chance, 4)
            line = some_line(chance, 4, 3)
            less = [[p for p in range(4) if chance.random() < 0.4] for _ in range(3)]
            more = [sorted(set(held) | set(chance.sample(range(4), 2))) for held in less]
            hearing = Hearing(system, line)
            for i in range(3):
                self.assertLessEqual(hearing(Run([()] + less, less), i), hearing(Run([()] + more, more), i))

    def test_errors_in_their_order(self):
        line = [(0, 1), None]
        for call in (unheard, first_heard):
            self.raises(BadRun, -1, call, SYSTEM, line, Run.blank(1))
            self.raises(BadRun, -1, call, SYSTEM, [], Run.blank(1))
        self.raises(BadRun, -1, honest_bad, SYSTEM, line, Run.blank(3), None)
        for value in NO_INTEGERS + [-1, 2]:
            self.raises(BadRow, value, honest_bad, SYSTEM, line, Run.blank(2), value)
        self.raises(BadRow, 0, honest_bad, SYSTEM, [], Run.blank(0), 0)
        self.assertIs(unheard(SYSTEM, [], Run.blank(0)), True)


class Aims(BareAim):

    def test_check_aim(self):
        line = [(0, 1), None, [2, 7]]
        told = {(1, 0), (7, 2)} | {(part, None) for part in range(8)}
        for target in range(-1, 9):
            for i in [None, -1, 0, 1, 2, 3]:
                if (target, i) in told:
                    self.assertEqual(check_aim(line, [target, i]), (target, i))
                    self.assertEqual(check_aim(tuple(line), (target, i)), (target, i))
                else:
                    self.no_aim(check_aim, line, (target, i))
                    self.no_aim(reaches, line, Run.blank(3), (target, i))
        for value in NO_LISTS + [(), (1,), (1, 0, 0), (True, 0), (1, False), (1, "0"), (None, None), ("1", None), (ODD, None)]:
            self.no_aim(check_aim, line, value)
            self.no_aim(reaches, line, Run.blank(3), value)

    def test_reaches(self):
        line = [(0, 1), None, (2, 7)]
        run = Run([[1], [2], [3], [4, 6]], [[5], [6], [7]])
        self.assertIs(reaches(line, run, (1, 0)), False)
        self.assertIs(reaches(line, run, [7, 2]), True)
        for part in range(8):
            self.assertIs(reaches(line, run, (part, None)), part in (4, 6))
        self.raises(BadRun, -1, reaches, line, Run.blank(2), None)
        self.assertIs(reaches([], Run([[3]], []), (3, None)), True)


if __name__ == "__main__":
    unittest.main()
