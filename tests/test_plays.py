"""Point 101: points of a run, plays, the rows of unheard runs as unions of plays."""

import unittest

from deeplooks.covers import Hearing
from deeplooks.errors import BadFoe, BadNumber, BadRow, BadSet, TooMany
from deeplooks.foes import Foe
from deeplooks.plays import plays_of, within
from deeplooks.runs import Run
from deeplooks.sieves import sieve
from deeplooks.systems import System
from tests.helpers import NO_INTEGERS, NO_LISTS, ODD, Case, all_subsets, seeded, some_foe
from tests.slowsieve import (Forms, one_place, run_of, small_foes, small_lines, small_systems, some_line, unheard_forms,
                             union)


def as_row(states):
    """The states as a tuple of sets as point 1 returns them."""
    return tuple(tuple(sorted(held)) for held in states)


def lies_under(one, other):
    """True if the one row lies under the other one, set by set."""
    return all(set(a) <= set(b) for a, b in zip(one, other))


def by_the_words(rows, part, i):
    """The plays at the point: the rows with it under which no other such row lies, ascending."""
    held = [row for row in rows if part in row[i]]
    least = [row for row in held if not any(other != row and lies_under(other, row) for other in held)]
    return sorted(least, key=lambda row: [(len(state), state) for state in row])


class Within(Case):

    def test_small_ones_whole(self):
        chance = seeded(120)
        for foe in small_foes():
            forms = Forms(foe)
            for system in small_systems():
                for line in list(small_lines(1)) + chance.sample(list(small_lines(2)), 2):
                    length = len(line)
                    unheard = unheard_forms(system, line, forms.of(length))
                    rooms = [chance.choice(all_subsets(range(2))) for _ in range(length)]
                    kept = [form for form in unheard if lies_under(form[1], rooms)]
                    run = within(system, foe, line, [list(room) for room in rooms])
                    self.assertEqual(run, run_of(union(kept, length)))

    def test_rooms(self):
        system, foe = System(1, [0, 0], [[], []], [0]), Foe(2, [0, 1], [])
        self.assertEqual(within(system, foe, [None, None], [[1, 0], (1,)]), Run([[0, 1], [0, 1], [1]], [[0, 1], [1]]))
        self.assertEqual(within(system, foe, [], ()), Run([[0, 1]], []))
        for value in NO_LISTS + [[], [[]], [[]] * 3, [[0], [2]], [[0], None], [[0, 0], []], [[True], []], [0, 1], [ODD, []]]:
            self.raises(BadSet, "rooms", within, system, foe, [None, None], value)
        self.raises(BadFoe, "many", within, system, Foe(1, [], []), [], None)


class Plays(Case):

    def check(self, system, foe, line, forms):
        """The plays at each point, and the rows of all unheard runs as their unions."""
        rows = sorted({as_row(form[1]) for form in unheard_forms(system, line, forms)})
        plays = []
        for i in range(len(line)):
            for part in range(system.many):
                found = plays_of(system, foe, line, part, i)
                self.assertEqual(found, by_the_words(rows, part, i))
                plays += found
        unions = {as_row([()] * len(line))}
        for play in plays:
            unions |= {as_row([set(a) | set(b) for a, b in zip(row, play)]) for row in unions}
        self.assertEqual(sorted(unions), rows)

    def test_small_ones_whole(self):
        chance = seeded(121)
        for foe in small_foes():
            forms = Forms(foe)
            for system in small_systems():
                for line in list(small_lines(1)) + chance.sample(list(small_lines(2)), 2):
                    self.check(system, foe, line, forms.of(len(line)))

    def test_three_parts(self):
        chance = seeded(122)
        for _ in range(40):
            foe = some_foe(chance, 3, 5)
            forms = Forms(foe).of(2)
            for _ in range(4):
                self.check(one_place(chance, 3), foe, some_line(chance, 3, 2, 0.2), forms)

    def test_what_is_returned(self):
        system = System(1, [0, 0, 0], [[0, 1], [1], [2]], [0])
        foe = Foe(3, [0, 1, 2], [])
        found = plays_of(system, foe, [(0, 2)], 2, 0)
        self.assertIs(type(found), list)
        self.assertIs(type(found[0]), tuple)
        found.clear()
        self.assertEqual(plays_of(system, foe, [[0, 2]], 2, 0), [((0, 2),), ((1, 2),)])
        self.assertEqual(plays_of(system, Foe(3, [0], []), [(0, 2)], 2, 0), [])

    def test_fourteen_points_and_fifteen(self):
        system = System(1, [0] * 7, [[]] * 7, [0])
        late = Foe(7, list(range(7)), [((), k) for k in range(7)])
        self.assertEqual(plays_of(system, late, [None, None], 3, 1), [((), (3,))])
        self.assertEqual(plays_of(system, Foe(7, list(range(7)), []), [None, None], 3, 1), [((3,), (3,))])
        self.raises(TooMany, "points", plays_of, system, Foe(7, list(range(7)), []), [None] * 3, 3, 1)
        fifteen = Foe(1, [0], [])
        one = System(1, [0], [[]], [0])
        self.assertEqual(plays_of(one, fifteen, [None] * 14, 0, 13), [((0,),) * 14])
        self.raises(TooMany, "points", plays_of, one, fifteen, [None] * 15, 0, 13)
        # The point itself need not be one of the run.
        self.raises(TooMany, "points", plays_of, System(1, [0, 0], [[], []], [0]), Foe(2, [0], []), [None] * 15, 1, 3)
        self.assertEqual(plays_of(System(1, [0, 0], [[], []], [0]), Foe(2, [0], []), [None] * 14, 1, 3), [])

    def test_many_plays(self):
        # Part 7 stays bad at its look if any of three of six is bad; each choice that covers it is a play.
        needs = [[0, 1, 2, 3, 4, 5]] + [[k] for k in range(1, 8)]
        system = System(1, [0] * 8, needs, [0])
        foe = Foe(8, [0, 1, 2, 3, 4, 5, 7], [])
        self.assertEqual(plays_of(system, foe, [(0, 7)], 7, 0), [((k, 7),) for k in range(6)])
        rules = [((a, b), 7) for a in range(6) for b in range(a)]
        found = plays_of(system, Foe(8, [0, 1, 2, 3, 4, 5], rules), [None, (6, 0)], 7, 1)
        pairs = [(a, b) for a in range(6) for b in range(a + 1, 6)]
        self.assertEqual(found, [((7,), (7,))] + [(pair, (7,)) for pair in pairs])
        found = plays_of(system, Foe(8, [0, 1, 2, 3, 4, 5], rules, stuck=[0, 1, 2, 3, 4, 5]), [None], 7, 0)
        self.assertEqual(found, [((a, b, 7),) for a, b in pairs])

    def test_drawn_ones_with_many_points(self):
        chance = seeded(123)
        tried = 0
        while tried < 25:
            many = 4
            foe, system = some_foe(chance, many, 8), one_place(chance, many)
            line = some_line(chance, many, 3, 0.3)
            most = sieve(foe, line, Hearing(system, line))
            points = [(i, part) for i, state in enumerate(most.states) for part in state]
            if not 6 <= len(points) <= 9:
                continue
            tried += 1
            rows = self.rows_by_rooms(system, foe, line, points)
            for i, part in points:
                self.assertEqual(plays_of(system, foe, line, part, i), by_the_words(rows, part, i))

    def rows_by_rooms(self, system, foe, line, points):
        """All rows of unheard runs: those that are the greatest within themselves."""
        found = set()
        for chosen in all_subsets(points):
            rooms = [[part for at, part in chosen if at == i] for i in range(len(line))]
            if within(system, foe, line, rooms).states == as_row(rooms):
                found.add(as_row(rooms))
        return sorted(found)

    def test_errors_in_their_order(self):
        system, foe = System(1, [0, 0], [[], []], [0]), Foe(2, [0, 1], [])
        long = [None] * 16
        self.raises(BadFoe, "many", plays_of, system, Foe(3, [], []), long, None, None)
        for value in NO_INTEGERS + [-1, 2]:
            self.raises(BadNumber, "part", plays_of, system, foe, long, value, None)
        for value in NO_INTEGERS + [-1, 16]:
            self.raises(BadRow, value, plays_of, system, foe, long, 0, value)
        self.raises(TooMany, "points", plays_of, system, foe, long, 0, 0)
        self.raises(BadRow, 0, plays_of, system, foe, [], 0, 0)


if __name__ == "__main__":
    unittest.main()
