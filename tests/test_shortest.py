"""Points 160 and 161: steps against a row, passes that make it best, shortest best rows."""

import unittest
from itertools import permutations, product

from deeplooks.errors import BadLine, BadSet, TooMany
from deeplooks.feeding import feeding_ring
from deeplooks.livepaths import holds_path, is_best_row, live_paths
from deeplooks.shortest import least_length, passes_needed, shortest_best, steps_against
from deeplooks.systems import System
from tests.asked import single_looks, wrong_looks, wrong_rows
from tests.helpers import NO_LISTS, Case, seeded
from tests.slowsieve import one_place
from tests.test_feeding import N, RING, dense
from tests.test_livepaths import chain_of, leading, paths_by_the_words


def some_looks(chance):
    """A system and looks no two of which are at one part."""
    many = chance.randrange(2, 9)
    count = chance.randrange(1, min(many, 4) + 1)
    if chance.random() < 0.4:
        return leading(chance, many, count)
    return chance.choice([one_place, dense])(chance, many), single_looks(chance, many, count)


def against(row, path):
    """How many neighbours of the path stand the other way round in the row."""
    place = {target: i for i, (_, target) in enumerate(row)}
    return sum(1 for x, b in zip(path, path[1:]) if place[b] < place[x])


def holds_all(row, paths):
    """True if the row holds each path, its parts as they come."""
    for path in paths:
        parts = iter([target for _, target in row])
        if not all(part in parts for part in path):
            return False
    return True


def first_shortest(system, looks, most):
    """The first of the shortest best rows by a listing of all rows up to a length; None if there is none."""
    paths = paths_by_the_words(system, looks)
    for length in range(most + 1):
        for row in product(looks, repeat=length):
            if holds_all(row, paths):
                return row
    return None


class Passes(Case):

    def test_steps_and_passes(self):
        chance = seeded(370)
        needed = {}
        for _ in range(300):
            system, looks = some_looks(chance)
            row = chance.sample(looks, len(looks))
            paths = live_paths(system, looks)
            for path in paths:
                steps = against(row, path)
                self.assertEqual(steps_against([list(look) for look in looks], row, list(path)), steps)
                for times in range(5):
                    self.assertIs(holds_path(row * times, path), times > steps)
            many = passes_needed(system, looks, tuple(row))
            self.assertEqual(many, 1 + max([against(row, path) for path in paths], default=0))
            needed[many] = needed.get(many, 0) + 1
            if paths:
                self.assertIs(is_best_row(system, looks, row * many), True)
                self.assertIs(is_best_row(system, looks, row * (many - 1)), False)
        self.assertGreater(min(needed.get(k, 0) for k in (1, 2, 3)), 5)

    def test_chains_of_five_six_and_seven(self):
        for count in (5, 6, 7):
            system, looks = chain_of(count)
            self.assertEqual(passes_needed(system, looks, looks), 1)
            backwards = looks[::-1]
            self.assertEqual(steps_against(looks, backwards, tuple(range(1, count + 1))), count - 1)
            self.assertEqual(passes_needed(system, looks, backwards), count)
        # Seven looks backwards would have to be gone through seven times: more than a row of 40 holds.
        self.raises(BadLine, -1, is_best_row, system, looks, backwards * 7)
        self.assertIs(is_best_row(system, looks, looks), True)

    def test_no_live_path(self):
        system = System(1, [0, 0], [[1], [0]], [0])
        self.assertEqual(passes_needed(system, [(0, 1), (1, 0)], [(1, 0), (0, 1)]), 1)
        self.assertEqual(steps_against([(0, 1), (1, 0)], [(1, 0), (0, 1)], [0]), 0)

    def test_errors_in_their_order(self):
        system, looks = System(1, [0] * 3, [[]] * 3, [0]), [(0, 1), (1, 0)]
        for value in wrong_looks(3) + [[(0, 1), (2, 1)]]:
            self.raises(BadSet, "looks", passes_needed, system, value, None)
            self.raises(BadSet, "looks", shortest_best, system, value)
            self.raises(BadSet, "looks", least_length, system, value)
        wrong = wrong_rows(3, 40) + [([(0, 1), (1, 2)], 1), ([(2, 1)], 0), ([[1, 0], [0, 1], (0, 0), 7], 2)]
        wrong += [([], -1), ([(0, 1)], -1), ([(0, 1), (0, 1)], -1), ([(0, 1), (1, 0), (0, 1)], -1), (looks * 20, -1)]
        for value, place in wrong:
            self.raises(BadLine, place, passes_needed, system, looks, value)
            self.raises(BadLine, place, steps_against, looks, value, (1, 0))
        given, row, path = [[0, 1], (1, 0)], [[1, 0], [0, 1]], [1, 0]
        self.assertEqual(steps_against(given, row, path), 1)
        self.assertEqual(steps_against(given, row[::-1], path), 0)
        self.assertEqual(steps_against(given, row, [0, 1]), 0)
        passes_needed(system, given, row)
        self.assertEqual((given, row, path), ([[0, 1], (1, 0)], [[1, 0], [0, 1]], [1, 0]))
        # The looks themselves are not checked.
        self.assertEqual(steps_against([(11, 12), [13, 14]], [[13, 14], (11, 12)], (12, 14)), 1)
        for value in NO_LISTS:
            self.raises(BadLine, -1, steps_against, [(11, 12)], value, ())


class Shortest(Case):

    def test_by_a_listing_of_all_rows(self):
        chance = seeded(371)
        lengths = {}
        for _ in range(150):
            system, looks = some_looks(chance)
            right = first_shortest(system, looks, 6)
            found = shortest_best(system, looks)
            self.assertIs(type(found), tuple)
            self.assertEqual(found, right)
            self.assertEqual(least_length(system, [list(look) for look in looks]), len(right))
            lengths[len(right)] = True
        self.assertGreater(len(lengths), 4)

    def test_five_looks(self):
        chance = seeded(372)
        longer = 0
        for number in range(60):
            system, looks = dense(chance, 8), single_looks(chance, 8, 5)
            if number % 3 == 0:
                system, looks = leading(chance, 8, 5)
            found = shortest_best(system, looks)
            self.assertTrue(holds_all(found, live_paths(system, looks)))
            if len(found) <= 5 or longer < 3:
                self.assertEqual(found, first_shortest(system, looks, len(found)))
            longer += len(found) > 5
            alive = [look for look in looks if look[1] not in system.needs[look[0]]]
            self.assertTrue(set(alive) <= set(found))
            ring = feeding_ring(system, looks) is not None
            self.assertEqual(len(found) == len(alive), not ring)
        self.assertGreater(longer, 0)

    def test_one_look_at_each_part_exactly_without_a_ring(self):
        chance = seeded(373)
        cases = [RING, N] + [some_looks(chance) for _ in range(150)]
        for system, looks in cases:
            alive = [look for look in looks if look[1] not in system.needs[look[0]]]
            once = any(holds_all(row, live_paths(system, looks)) for row in permutations(alive))
            self.assertEqual(once, feeding_ring(system, looks) is None)
            self.assertEqual(least_length(system, looks) == len(alive), once)

    def test_a_ring_and_chains(self):
        system, looks = RING
        self.assertEqual(shortest_best(system, looks), ((0, 3), (1, 4), (2, 5), (0, 3)))
        system, looks = chain_of(5)
        self.assertEqual(shortest_best(system, looks[::-1]), tuple(looks))
        self.assertEqual(least_length(system, looks), 5)
        self.raises(TooMany, "looks", shortest_best, *chain_of(6))
        self.raises(TooMany, "looks", least_length, *chain_of(6))
        dead = System(1, [0, 0], [[1], [0]], [0])
        self.assertEqual(shortest_best(dead, [(0, 1), (1, 0)]), ())
        self.assertEqual(least_length(dead, [(0, 1), (1, 0)]), 0)
        given = [[0, 3], [1, 4], [2, 5]]
        shortest_best(RING[0], given)
        self.assertEqual(given, [[0, 3], [1, 4], [2, 5]])

    def test_six_looks_that_are_wrong_too(self):
        system = System(1, [0] * 8, [[]] * 8, [0])
        self.raises(BadSet, "looks", shortest_best, system, [(0, 1)] * 6)
        self.raises(TooMany, "looks", shortest_best, system, [(k, k + 1) for k in range(6)])
        self.assertEqual(least_length(system, [(0, k) for k in range(1, 6)]), 5)


if __name__ == "__main__":
    unittest.main()
