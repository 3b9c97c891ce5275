"""Point 187: walks of lone parts, truthful tours."""

import unittest

from deeplooks.foes import Foe
from deeplooks.growth import grow
from deeplooks.systems import System
from deeplooks.tours import left_after
from deeplooks.wanderers import alone_after, is_walk, lone_walk, truthful
from tests.helpers import NO_LISTS, ODD, Case, seeded
from tests.slowtours import sets_by_the_words, some_case, some_tour


def near(foe, part, pace):
    """The parts to which at most so many rules lead, one part at a time."""
    found = {part}
    for _ in range(pace):
        found = found | {p for q, p in foe.rules if len(q) == 1 and q[0] in found}
    return found


def all_walks(foe, tour, pace, rounds):
    """All walks of so many rounds."""
    walks = [(part,) for part in foe.early]
    for i in range(rounds):
        targets = [b for _, b in tour[i % len(tour)]]
        walks = [(*walk, part) for walk in walks for part in near(foe, walk[-1], pace) if part not in targets]
    return walks


def truthful_case(chance):
    """A system, a foe, a truthful tour and a pace."""
    while True:
        system, foe, tour, pace = some_case(chance, 7, 3, 6, single=True)
        bad = set(grow(foe, foe.early))
        tour = [[(a, b) for a, b in row if not set(system.needs[a]) & bad] for row in tour]
        if foe.early:
            return system, foe, tour, pace


class Walks(Case):

    def test_all_walks(self):
        chance = seeded(440)
        told = {}
        for _ in range(250):
            system, foe, tour, pace = some_case(chance, 4, 3, 3)
            rounds = chance.randrange(5)
            walks = all_walks(foe, tour, pace, rounds)
            found = lone_walk(system, foe, tour, pace, rounds)
            told[bool(walks)] = told.get(bool(walks), 0) + 1
            self.assertEqual(found is not None, bool(walks))
            if walks:
                self.assertIs(type(found), tuple)
                self.assertIn(found, walks)
                self.assertNotEqual(left_after(system, foe, tour, pace, rounds)[-1], ())
            for walk in walks[:20]:
                self.assertIs(is_walk(system, foe, tour, pace, list(walk)), True)
            for _ in range(10):
                drawn = tuple(chance.randrange(system.many) for _ in range(rounds + 1))
                self.assertIs(is_walk(system, foe, tour, pace, drawn), drawn in walks)
        self.assertGreater(min(told.values()), 60)

    def test_four_hundred_rounds(self):
        system = System(1, [0] * 8, [[]] * 8, [0])
        foe = Foe(8, [3], [([k], (k + 1) % 8) for k in range(8)])
        tour = [[(0, k) for k in range(8) if k != (3 + i) % 8] for i in (1, 2, 3, 4)]
        walk = lone_walk(system, foe, tour, 20, 400)
        self.assertEqual(len(walk), 401)
        self.assertIs(is_walk(system, foe, tour, 20, walk), True)
        self.assertIsNone(lone_walk(system, foe, tour, 0, 400))
        self.assertEqual(lone_walk(system, foe, tour, 0, 0), (3,))
        self.assertIsNone(lone_walk(system, Foe(8, [], []), tour, 0, 0))
        long = [3] + [(4 + i % 4) % 8 for i in range(600)]
        self.assertIs(is_walk(system, foe, tour, 20, long), True)
        self.assertIs(is_walk(system, foe, tour, 4, long), False)

    def test_what_walks_need(self):
        system, foe = System(1, [0] * 4, [[]] * 4, [0]), Foe(4, [0], [([0], 1), ([1], 2), ([0, 1], 3)])
        self.assertIs(is_walk(system, foe, [[(3, 0)]], 2, (0, 2)), True)
        self.assertIs(is_walk(system, foe, [[(3, 0)]], 1, (0, 2)), False)
        self.assertIs(is_walk(system, foe, [[(3, 2)]], 2, (0, 2)), False)
        # A rule with a premise of two parts moves nobody who walks alone.
        self.assertIs(is_walk(system, foe, [[]], 9, (0, 3)), False)
        self.assertIs(is_walk(system, foe, [[]], 0, (0, 0, 0)), True)
        self.assertIs(is_walk(system, foe, [[]], 9, (1,)), False)

    def test_values_of_any_kind(self):
        system, foe = System(1, [0] * 3, [[]] * 3, [0]), Foe(3, [0, 1], [([0], 1)])
        for value in NO_LISTS + [[], (), [3], [-1], [True], [None], [ODD], [[0]], [0, None], [0, True], [0, 3], [2]]:
            self.assertIs(is_walk(system, foe, [[]], 1, value), False)
        self.assertIs(is_walk(system, foe, [[]], 1, [0, 1]), True)


class Truthful(Case):

    def test_by_the_words(self):
        chance = seeded(441)
        told = {}
        for _ in range(400):
            system, foe, tour, _ = some_case(chance, 5, 2, 3, single=chance.random() < 0.7)
            bad = set(grow(foe, foe.early))
            needed = any(set(system.needs[a]) & bad for row in tour for a, _ in row)
            right = not needed and all(len(q) == 1 for q, _ in foe.rules)
            told[right] = told.get(right, 0) + 1
            self.assertIs(truthful(system, foe, tour), right)
        self.assertGreater(min(told.values()), 60)

    def test_lone_sets(self):
        chance = seeded(442)
        kept = 0
        for _ in range(200):
            system, foe, tour, pace = truthful_case(chance)
            self.assertIs(truthful(system, foe, tour), True)
            rounds = chance.randrange(6)
            lone = [alone_after(system, foe, tour, pace, rounds, part) for part in foe.early]
            left = left_after(system, foe, tour, pace, rounds)[-1]
            self.assertEqual(left, tuple(sorted({part for held in lone for part in held})))
            self.assertEqual(left != (), lone_walk(system, foe, tour, pace, rounds) is not None)
            kept += left != ()
        self.assertGreater(kept, 60)

    def test_alone(self):
        chance = seeded(443)
        for _ in range(200):
            system, foe, tour, pace = some_case(chance, 7, 3, 5)
            part, rounds = chance.randrange(system.many), chance.randrange(8)
            right = sets_by_the_words(system, foe, tour, pace, rounds, [part])[-1]
            found = alone_after(system, foe, tour, pace, rounds, part)
            self.is_tuple_set(found)
            self.assertEqual(set(found), right)

    def test_a_team_that_covers_itself(self):
        system, foe, tour = System(1, [0, 0], [[], []], [0]), Foe(2, [0, 1], []), [[(0, 1), (1, 0)]]
        self.assertEqual(left_after(system, foe, tour, 0, 400)[-1], (0, 1))
        self.assertIsNone(lone_walk(system, foe, tour, 0, 1))
        self.assertIs(truthful(system, foe, tour), False)
        self.assertEqual(alone_after(system, foe, tour, 0, 1, 0), ())
        self.assertEqual(some_tour(seeded(0), 2, 1, 0), [[]])


if __name__ == "__main__":
    unittest.main()
