"""Point 100: ways down."""

import unittest

from deeplooks.covers import Hearing
from deeplooks.descents import descent, is_descent
from deeplooks.errors import BadRun
from deeplooks.foes import Foe
from deeplooks.runs import Run
from deeplooks.sieves import sieve
from deeplooks.systems import System
from tests.helpers import NO_INTEGERS, NO_LISTS, ODD, Case, seeded, some_foe
from tests.slowsieve import heard_at, one_place, some_line
from tests.test_covers import BareAim


def ways_down(system, line, run, steps):
    """All ways down that begin with these steps, by the words of point 100."""
    part, at = steps[-1]
    a = line[at][0]
    if part in system.needs[a]:
        return [(steps, "void", part)]
    found = []
    for x in system.needs[a]:
        if x not in run.states[at]:
            continue
        looks = [i for i in range(at) if line[i] is not None and line[i][1] == x]
        if not looks:
            found.append((steps, "deep", x))
        elif x not in run.states[looks[-1]]:
            found.append((steps, "recent", x))
        else:
            found += ways_down(system, line, run, steps + ((x, looks[-1]),))
    return found


def all_ways_down(system, line, run):
    """All ways down from any look whose target is bad."""
    starts = [((look[1], i),) for i, look in enumerate(line) if look is not None and look[1] in run.states[i]]
    return [way for start in starts for way in ways_down(system, line, run, start)]


def bent(way, many, length):
    """The way bent in one step, one part or one word."""
    steps, word, part = way
    for other in ("void", "deep", "recent"):
        yield steps, other, part
    for p in range(many):
        yield steps, word, p
    for k in range(len(steps)):
        yield steps[:k] + steps[k + 1:], word, part
        for p in range(many):
            yield steps[:k] + ((p, steps[k][1]),) + steps[k + 1:], word, part
        for i in range(length):
            yield steps[:k] + ((steps[k][0], i),) + steps[k + 1:], word, part
            for p in range(many):
                yield steps[:k] + ((p, i),) + steps[k:], word, part


class Descents(BareAim):

    def test_drawn_runs(self):
        chance = seeded(118)
        words, deepest, refused = set(), 0, 0
        for _ in range(500):
            many = chance.randrange(2, 6)
            system, foe = one_place(chance, many), some_foe(chance, many, 8)
            if chance.random() < 0.6:
                # Few needs and parts that come back: what covers a look may have been good at its own one.
                system = System(1, [0] * many, [[p for p in range(many) if chance.random() < 0.1]] * many, [0])
                foe = Foe(many, foe.early, [((), p) for p in range(many) if chance.random() < 0.4])
            line = some_line(chance, many, chance.randrange(1, 10), 0.1)
            run = sieve(foe, line, Hearing(system, line))
            ways = all_ways_down(system, line, run)
            for i, look in enumerate(line):
                if look is None or look[1] not in run.states[i]:
                    self.no_aim(descent, system, line, run, i)
                    continue
                way = descent(system, line, run, i)
                self.assertIn(way, ways)
                self.assertEqual(way[0][0], (look[1], i))
                self.assertIs(type(way[0]), tuple)
                words.add(way[1])
                deepest = max(deepest, len(way[0]))
            refused += self.check_all(chance, system, line, run, ways)
        self.assertEqual(words, {"void", "deep", "recent"})
        self.assertGreater(deepest, 2)
        self.assertGreater(refused, 1000)

    def check_all(self, chance, system, line, run, ways):
        """is_descent accepts all ways, and of bent ones just those that are ways."""
        refused = 0
        for way in chance.sample(ways, min(len(ways), 4)):
            self.assertIs(is_descent(system, line, run, way), True)
            self.assertIs(is_descent(system, line, run, [[list(step) for step in way[0]], way[1], way[2]]), True)
            for other in bent(way, system.many, len(line)):
                refused += other not in ways
                self.assertIs(is_descent(system, line, run, other), other in ways)
        return refused

    def test_runs_that_are_heard(self):
        chance = seeded(119)
        heard = 0
        for _ in range(200):
            system = one_place(chance, 4)
            line = some_line(chance, 4, 5, 0.1)
            states = [[p for p in range(4) if chance.random() < 0.5] for _ in range(5)]
            run = Run([[]] + states, states)
            bad = heard_at(system, line, states)
            for i, look in enumerate(line):
                if bad and look is not None and look[1] in states[i]:
                    heard += 1
                    self.raises(BadRun, bad[0], descent, system, line, run, i)
            ways = all_ways_down(system, line, run)
            self.check_all(chance, system, line, run, ways)
        self.assertGreater(heard, 100)

    def test_each_word(self):
        system = System(1, [0, 0, 0, 0], [[0], [0, 1], [1, 2], [3, 0]], [0])
        line = [(1, 2), (0, 1), None, (2, 3)]
        run = Run([[0, 1, 2, 3]] * 5, [[0, 2], [0, 1], [], [1, 3]])
        self.assertEqual(descent(system, line, run, 0), (((2, 0),), "deep", 0))
        self.assertEqual(descent(system, line, run, 3), (((3, 3), (1, 1)), "deep", 0))
        run = Run([[0, 1, 2, 3]] * 5, [[0, 2], [], [], [1, 3]])
        self.assertEqual(descent(system, line, run, 3), (((3, 3),), "recent", 1))
        void = [(2, 1)]
        self.assertEqual(descent(system, void, Run([[1], [1]], [[1]]), 0), (((1, 0),), "void", 1))
        # A void look ends the way, whatever else its measurer needs.
        self.assertIs(is_descent(system, void, Run([[1], [1]], [[1]]), [[(1, 0)], "deep", 1]), False)

    def test_values_of_any_kind(self):
        system = System(1, [0, 0], [[0], [0, 1]], [0])
        line = [(0, 0), None]
        run = Run([[0]] * 3, [[0], [0]])
        self.assertIs(is_descent(system, line, run, ([(0, 0)], "void", 0)), True)
        steps = [[], None, 0, "00", [None], [(0,)], [(0, 0, 0)], [(0, 1)], [(0, -1)], [(0, 2)], [(0, "0")], [(None, 0)],
                 [(False, 0)], [(0, False)], [(1, 0)], {0: 0}, [(0, 0), (0, 0)], [ODD], [(0, 0), None]]
        for value in NO_LISTS + [[], [[(0, 0)], "void"], [[(0, 0)], "void", 0, 0]]:
            self.assertIs(is_descent(system, line, run, value), False)
        for value in steps:
            self.assertIs(is_descent(system, line, run, (value, "void", 0)), False)
        for value in [None, "Void", "", 0, ODD, ["void"], "deep", "recent"]:
            self.assertIs(is_descent(system, line, run, ([(0, 0)], value, 0)), False)
        for value in NO_INTEGERS + [1, -1, 2]:
            self.assertIs(is_descent(system, line, run, ([(0, 0)], "void", value)), False)

    def test_errors_in_their_order(self):
        system = System(1, [0, 0], [[0], [0, 1]], [0])
        line = [(0, 1), None, (1, 0)]
        heard = Run([[0, 1]] * 4, [[1], [], [0]])
        self.raises(BadRun, -1, descent, system, line, Run.blank(2), None)
        self.raises(BadRun, -1, is_descent, system, line, Run.blank(2), None)
        for value in NO_INTEGERS + [-1, 1, 3]:
            self.no_aim(descent, system, line, heard, value)
        self.no_aim(descent, system, line, Run.blank(3), 0)
        # The first position of the whole line at which the run is heard, also behind or ahead of i.
        self.raises(BadRun, 0, descent, system, line, heard, 2)
        self.assertEqual(descent(system, line, Run([[0]] * 4, [[], [], [0]]), 2), (((0, 2),), "void", 0))

    def test_changes_nothing(self):
        system = System(1, [0, 0], [[0], [0, 1]], [0])
        line = [[0, 0]]
        told = [[[0, 0]], "void", 0]
        is_descent(system, line, Run([[0], [0]], [[0]]), told)
        self.assertEqual((line, told), ([[0, 0]], [[[0, 0]], "void", 0]))
        self.assertIsInstance(self, Case)


if __name__ == "__main__":
    unittest.main()
