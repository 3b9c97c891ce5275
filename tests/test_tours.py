"""Points 181 to 184, 186 and 188: tours, ways of rounds, the sets behind the rounds, met or never."""

import unittest

from deeplooks.errors import BadFoe, BadNumber, BadSet, BadTour
from deeplooks.feeding import feeding_order, feeding_ring, is_best_order
from deeplooks.foes import Foe
from deeplooks.livepaths import live_paths
from deeplooks.orders import Order
from deeplooks.selfkept import greatest_kept
from deeplooks.shortest import passes_needed
from deeplooks.systems import System
from deeplooks.tours import comes_again, is_way, left_after, met, round_of_row, spread, way_of_rounds
from tests.asked import single_looks, wrong_pairs
from tests.helpers import NO_INTEGERS, NO_LISTS, ODD, Case, all_subsets, seeded, some_foe, some_set
from tests.slowsieve import one_place
from tests.slowtours import (all_left, left_by_the_words, sets_by_the_words, some_case, some_tour, some_wanderer,
                             spread_by_the_words)
from tests.test_feeding import dense
from tests.test_livepaths import leading
from deeplooks.camps import camp, is_camp, longest_pace
from deeplooks.wanderers import alone_after, is_walk, lone_walk, truthful


def wrong_tours(many):
    """What is no tour over so many parts."""
    rows = NO_LISTS + [[(0, 0)] * 9, [None]] + [[(0, 0), pair] for pair in wrong_pairs(many)]
    return NO_LISTS + [[], (), [[]] * 5] + [[[], row] for row in rows]


def as_sets(sets):
    """The sets as tuples."""
    return tuple(tuple(sorted(held)) for held in sets)


class Spread(Case):

    def test_any_foe(self):
        chance = seeded(420)
        for _ in range(300):
            many = chance.randrange(1, 9)
            foe, parts, pace = some_foe(chance, many, 8), some_set(chance, range(many)), chance.randrange(21)
            found = spread(foe, parts, pace)
            self.is_tuple_set(found)
            self.assertEqual(found, as_sets([spread_by_the_words(foe, parts, pace)])[0])
            self.assertEqual(spread(foe, parts, 0), tuple(sorted(parts)))
            self.assertEqual(spread(foe, parts, many), spread(foe, parts, 20))

    def test_errors(self):
        foe = Foe(3, [], [((), 1)], stuck=[2])
        for value in NO_LISTS + [[3], [-1], [0, 0], [True], [None]]:
            self.raises(BadSet, "parts", spread, foe, value, None)
        for value in NO_INTEGERS + [-1, 21]:
            self.raises(BadNumber, "pace", spread, foe, [0], value)
        self.assertEqual(spread(foe, [0], 1), (0, 1))


class Left(Case):

    def test_rows(self):
        chance = seeded(421)
        for _ in range(300):
            system, foe, tour, _ = some_case(chance, 8, 1, 8)
            parts = some_set(chance, range(system.many))
            found = round_of_row(system, foe, tour[0], parts)
            self.is_tuple_set(found)
            self.assertEqual(set(found), left_by_the_words(system, foe, tour[0], parts))

    def test_sets_behind_the_rounds(self):
        chance = seeded(422)
        for _ in range(200):
            system, foe, tour, pace = some_case(chance, 8, 4, 8)
            rounds = chance.randrange(12)
            found = left_after(system, foe, tuple(tour), pace, rounds)
            self.assertEqual(found, as_sets(sets_by_the_words(system, foe, tour, pace, rounds)))

    def test_all_unheard_ways(self):
        chance = seeded(423)
        kept = 0
        for _ in range(120):
            system, foe, tour, pace = some_case(chance, 4, 3, 3)
            found = left_after(system, foe, tour, pace, 4)
            self.assertEqual(found, as_sets(all_left(system, foe, tour, pace, 4)))
            kept += found[4] != ()
        self.assertGreater(kept, 20)

    def test_met_and_never(self):
        chance = seeded(424)
        told = {}
        for _ in range(300):
            system, foe, tour, pace = some_case(chance, 7, 4, 5)
            sets = left_after(system, foe, tour, pace, 400)
            empty = [n for n, held in enumerate(sets) if held == ()]
            self.assertEqual(met(system, foe, tour, pace), empty[0] if empty else None)
            again = comes_again(system, foe, tour, pace)
            self.assertEqual(again is None, bool(empty))
            told[bool(empty)] = told.get(bool(empty), 0) + 1
            if not empty:
                pairs = [(i, j) for j in range(40) for i in range(j)
                         if sets[i] == sets[j] and i % len(tour) == j % len(tour)]
                self.assertIs(type(again), tuple)
                self.assertEqual(again, pairs[0])
                i, j = again
                self.assertEqual(sets[i:j], sets[j:j + j - i])
                self.assertEqual([pair for pair in pairs if pair[1] == j], [again])
        self.assertGreater(min(told.values()), 60)

    def test_met_at_nothing_and_later(self):
        system, looks = System(1, [0, 0, 0], [[], [], []], [0]), [(0, 1), (1, 2)]
        self.assertEqual(met(system, Foe(3, [], []), [[]], 3), 0)
        self.assertIsNone(comes_again(system, Foe(3, [], []), [[]], 3))
        self.assertEqual(met(system, Foe(3, [1], []), [[], [], looks], 0), 3)
        # The same set with another row to come is nothing that comes again.
        self.assertEqual(left_after(system, Foe(3, [1], []), [[], [], looks], 0, 3), ((1,), (1,), (1,), ()))
        self.assertIsNone(comes_again(system, Foe(3, [1], []), [[], [], looks], 0))
        self.assertEqual(comes_again(system, Foe(3, [0], []), [[], [(1, 2)]], 0), (0, 2))
        self.assertEqual(met(system, Foe(3, [1, 2], [([2], 1), ([1], 2)]), [looks, []], 1), 1)

    def test_larger_paces_and_foes_and_less_looks(self):
        chance = seeded(425)
        for _ in range(200):
            system, foe, tour, pace = some_case(chance, 7, 3, 5)
            other = some_wanderer(chance, system.many)
            less = [[look for look in row if chance.random() < 0.8] for row in tour]
            sets = left_after(system, foe, tour, pace, 9)
            for more in (left_after(system, foe | other, tour, pace, 9), left_after(system, foe, tour, pace + 1, 9),
                         left_after(system, foe, less, pace, 9)):
                self.assertTrue(all(set(one) <= set(two) for one, two in zip(sets, more)))
            many = system.many
            self.assertEqual(left_after(system, foe, tour, many, 9), left_after(system, foe, tour, 20, 9))

    def test_the_largest_tours(self):
        chance = seeded(426)
        for _ in range(3):
            system = one_place(chance, 8)
            foe = Foe(8, list(range(8)), [([k], (k + 1) % 8) for k in range(8)] + [([k, 0], 7) for k in range(1, 7)])
            tour = [[(chance.randrange(8), chance.randrange(8)) for _ in range(8)] for _ in range(4)]
            found = left_after(system, foe, tour, 20, 400)
            self.assertEqual(len(found), 401)
            self.assertEqual(found, as_sets(sets_by_the_words(system, foe, tour, 20, 400)))
            way = way_of_rounds(system, foe, tour, 20, 400)
            self.assertEqual([left for _, _, left in way], list(found[1:]))
            self.assertIs(is_way(system, foe, tour, 20, way), True)


class Ways(Case):

    def test_the_greatest_way(self):
        chance = seeded(427)
        for _ in range(150):
            system, foe, tour, pace = some_case(chance, 7, 3, 5)
            rounds = chance.randrange(7)
            sets = sets_by_the_words(system, foe, tour, pace, rounds)
            right = []
            for i in range(1, rounds + 1):
                paused = held = spread_by_the_words(foe, sets[i - 1], pace)
                states = []
                for look in tour[(i - 1) % len(tour)]:
                    held = left_by_the_words(system, foe, [look], held)
                    states.append(held)
                right.append((as_sets([paused])[0], as_sets(states), as_sets([sets[i]])[0]))
            found = way_of_rounds(system, foe, tour, pace, rounds)
            self.assertEqual(found, tuple(right))
            self.assertIs(is_way(system, foe, tour, pace, found), True)

    def lesser(self, chance, system, foe, tour, pace, rounds):
        """A way that is drawn, heard perhaps."""
        before, told = set(foe.early), []
        for i in range(rounds):
            steps = [spread_by_the_words(foe, before, pace)]
            row = tour[i % len(tour)]
            for _ in range(len(row) + 2):
                steps.append({part for part in steps[-1] if chance.random() < 0.93})
            # Most of the time what would be heard is mended.
            for k, (a, b) in enumerate(row):
                if chance.random() < 0.9 and not set(system.needs[a]) & steps[k + 2]:
                    steps[k + 2:] = [held - {b} for held in steps[k + 2:]]
            told.append([sorted(steps[1]), [sorted(held) for held in steps[2:-1]], sorted(steps[-1])])
            told[-1][1] = told[-1][1][:len(row)]
            last = steps[1 + len(row)]
            told[-1][2] = sorted(part for part in last if chance.random() < 0.9)
            before = set(told[-1][2])
        return told

    def is_right(self, system, foe, tour, pace, told):
        """True if it is an unheard way, by point 182."""
        before = set(foe.early)
        for i, (paused, states, left) in enumerate(told):
            row = tour[i % len(tour)]
            if len(states) != len(row) or not set(paused) <= spread_by_the_words(foe, before, pace):
                return False
            rest = [set(paused)] + [set(state) for state in states] + [set(left)]
            if not all(later <= earlier for earlier, later in zip(rest, rest[1:])):
                return False
            for (a, b), state in zip(row, states):
                if b in state and not set(system.needs[a]) & set(state):
                    return False
            before = set(left)
        return True

    def test_drawn_and_broken_ones(self):
        chance = seeded(428)
        counts = {}
        for _ in range(300):
            system, foe, tour, pace = some_case(chance, 6, 3, 4)
            told = self.lesser(chance, system, foe, tour, pace, chance.randrange(5))
            if chance.random() < 0.4 and told:
                entry = chance.choice(told)
                spot = chance.choice([0, 2] if not entry[1] else [0, 1, 2])
                if spot == 1:
                    entry[1][chance.randrange(len(entry[1]))] = sorted(some_set(chance, range(system.many)))
                else:
                    entry[spot] = sorted(some_set(chance, range(system.many)))
            right = self.is_right(system, foe, tour, pace, told)
            counts[right] = counts.get(right, 0) + 1
            self.assertIs(is_way(system, foe, tour, pace, told), right)
            if right:
                sets = way_of_rounds(system, foe, tour, pace, len(told))
                for one, two in zip(told, sets):
                    self.assertTrue(set(one[0]) <= set(two[0]) and set(one[2]) <= set(two[2]))
                    self.assertTrue(all(set(a) <= set(b) for a, b in zip(one[1], two[1])))
        self.assertGreater(min(counts.values()), 60)

    def test_each_condition_broken(self):
        system, foe = System(1, [0] * 3, [[], [0], []], [2]), Foe(3, [1], [([1], 2)])
        tour = [[(0, 2)], [(1, 1), (2, 0)]]
        right = [[[1, 2], [[1]], [1]], [[1, 2], [[1, 2], [1, 2]], [2]]]
        self.assertIs(is_way(system, foe, tour, 1, right), True)
        self.assertIs(is_way(system, foe, tour, 1, ()), True)
        self.assertIs(is_way(system, foe, tour, 0, right), False)
        wrong = [
            [[[0, 1], [[1]], [1]], right[1]],                  # paused is not inside the spread of early
            [[[1, 2], [[1]], []], right[1]],                   # nor inside that of left
            [[[2], [[1]], [1]], right[1]],                     # a state is not inside paused
            [[[1, 2], [[1, 2]], [1]], right[1]],               # a look is heard
            [[[1, 2], [[1]], [1, 2]], right[1]],               # left is not inside the last state
            [right[0], [[1, 2], [[1], [1, 2]], [2]]],          # a state is not inside the one before
            [[[1, 2], [[1], [1]], [1]], right[1]],             # a state too many
            [[[1, 2], [], [1]], right[1]],                     # a state too few
            [right[0], [[1, 2], [[1, 2], [1, 2]]]], [right[0], None], [right[0], [[1], [1], [1]]],
            [right[0], [[1], [[1], [1]], 1]], [right[0], [[1, 1], [[1], [1]], [1]]], [right[0], [[True], [[1], [1]], [1]]],
            [right[0], [[1], None, [1]]], [right[0], [[1], 5, [1]]], [right[0], [[1], "", [1]]], [right[0], [[1], {}, [1]]],
            [right[0], [[3], [[1], [1]], [1]]], [right[0], [[1], [[1], None], [1]]],
        ]
        for told in wrong + NO_LISTS:
            self.assertIs(is_way(system, foe, tour, 1, told), False)
        self.assertIs(is_way(system, foe, [[]], 0, [((1,), (), (1,))] * 500), True)
        self.assertIs(is_way(system, foe, [[]], 0, [((1,), (), (1,)), ([1], [], [1, 2])]), False)

    def test_rows_without_looks(self):
        system, foe = System(1, [0, 0], [[], []], [0]), Foe(2, [0], [([0], 1)])
        self.assertEqual(way_of_rounds(system, foe, [[]], 1, 2), (((0, 1), (), (0, 1)),) * 2)
        self.assertEqual(way_of_rounds(system, foe, [[]], 1, 0), ())


class Errors(Case):

    def calls(self):
        """The functions that take a tour, with what comes behind the tour."""
        return [(left_after, ("pace", "rounds")), (met, ("pace",)), (comes_again, ("pace",)),
                (way_of_rounds, ("pace", "rounds")), (is_way, ("pace", None)), (camp, ("pace",)), (is_camp, ("pace", None)),
                (longest_pace, ()), (truthful, ()), (alone_after, ("pace", "rounds", "part")),
                (lone_walk, ("pace", "rounds")), (is_walk, ("pace", None))]

    def test_errors_in_their_order(self):
        system = System(1, [0, 0, 0], [[], [], []], [0])
        other, loose = Foe(2, [], [((), 0)], stuck=[0]), Foe(3, [], [([1], 0), ((), 0)], stuck=[0])
        stuck, right = Foe(3, [], [([1], 0)], stuck=[0]), Foe(3, [1], [([1], 0)])
        for call, names in self.calls():
            nothing = [None] * len(names)
            self.raises(BadFoe, "many", call, system, other, None, *nothing)
            self.raises(BadFoe, "rules", call, system, loose, None, *nothing)
            self.raises(BadFoe, "stuck", call, system, stuck, None, *nothing)
            for value in wrong_tours(3):
                self.raises(BadTour, "rows", call, system, right, value, *nothing)
            given = []
            for k, name in enumerate(names):
                bounds = {"pace": 20, "rounds": 400, "part": 2}
                for value in NO_INTEGERS + [-1, bounds[name] + 1] if name else ():
                    self.raises(BadNumber, name, call, system, right, [[(0, 1)]], *given, value, *nothing[k + 1:])
                given.append(1)
        for value in NO_LISTS + [[(0, 0)] * 9, [None], [(0, 3)], [(True, 0)]]:
            self.raises(BadTour, "rows", round_of_row, system, right, value, None)
        self.raises(BadFoe, "many", round_of_row, system, other, None, None)
        self.raises(BadFoe, "rules", round_of_row, system, loose, None, None)
        self.raises(BadFoe, "stuck", round_of_row, system, stuck, None, None)
        for value in NO_LISTS + [[3], [-1], [0, 0], [True], [None], [ODD]]:
            self.raises(BadSet, "parts", round_of_row, system, right, [(0, 1)], value)
        # A tour goes ahead of a camp's own error.
        leading_out = Foe(3, [1], [([1], 0)])
        self.raises(BadNumber, "pace", camp, system, leading_out, [[]], 21)
        self.raises(BadFoe, "early", camp, system, leading_out, [[]], 20)
        self.raises(BadFoe, "early", is_camp, system, leading_out, [[]], 20, None)

    def test_bounds(self):
        system, foe = System(1, [0], [[]], [0]), Foe(1, [0], [])
        self.assertEqual(len(left_after(system, foe, [[(0, 0)] * 8] * 4, 20, 400)), 401)
        self.assertEqual(left_after(system, foe, [()], 0, 0), ((0,),))

    def test_arguments_stay(self):
        system, foe = System(1, [0, 0], [[], []], [0]), Foe(2, [0, 1], [])
        tour, parts = [[[0, 1]], []], [1, 0]
        way_of_rounds(system, foe, tour, 1, 3)
        lone_walk(system, foe, tour, 1, 3)
        round_of_row(system, foe, tour[0], parts)
        self.assertEqual((tour, parts), ([[[0, 1]], []], [1, 0]))
        self.assertEqual(some_tour(seeded(0), 3, 1, 0), [[]])


class Feeding(Case):

    def cases(self, seed, count):
        """Systems and looks without a ring of feeding."""
        chance = seeded(seed)
        while count:
            many = chance.randrange(2, 7)
            looks = single_looks(chance, many, chance.randrange(1, many + 1))
            system = chance.choice([one_place, dense])(chance, many)
            if chance.random() < 0.5:
                system, looks = leading(chance, many, len(looks))
            if feeding_ring(system, looks) is None:
                count -= 1
                yield chance, system, looks

    def test_best_orders_of_a_round(self):
        told = {}
        for chance, system, looks in self.cases(429, 150):
            many = system.many
            rows = [chance.sample(range(len(looks)), len(looks)) for _ in range(4)]
            best = [row for row in rows if is_best_order(system, looks, Order.of_row(row))]
            first = [k for _, k in sorted((len(feeding_order(system, looks).ahead(k)), k) for k in range(len(looks)))]
            foe, pace = some_wanderer(chance, many), chance.randrange(3)
            least = left_after(system, foe, [[looks[k] for k in first]], pace, 6)
            for i in range(1, 7):
                ahead = spread(foe, least[i - 1], pace)
                levels = [1 if part in ahead else 0 for part in range(many)]
                self.assertEqual(least[i], greatest_kept(system, looks, levels))
            for row in rows:
                found = left_after(system, foe, [[looks[k] for k in row]], pace, 6)
                if row in best:
                    self.assertEqual(found, least)
                self.assertTrue(all(set(one) <= set(two) for one, two in zip(least, found)))
                told[row in best] = told.get(row in best, 0) + 1
                self.check_pairs(system, looks, row, row in best)
            self.check_latest(system, looks, rows[0])
        self.assertGreater(min(told.values()), 50)

    def check_pairs(self, system, looks, row, best):
        """What feeds what, and is looked at behind it, is met a round later."""
        order = feeding_order(system, looks)
        for i, j in order.pairs:
            needs = system.needs[looks[j][0]]
            x, b = looks[i][1], looks[j][1]
            if x in needs and b not in needs and not {x, b} & set(system.needs[looks[i][0]]):
                foe = Foe(system.many, [x, b], [])
                found = met(system, foe, [[looks[k] for k in row]], 0)
                if row.index(j) < row.index(i):
                    self.assertEqual(found, 2)
                elif best:
                    self.assertEqual(found, 1)

    def check_latest(self, system, looks, row):
        """The latest round at which a foe is met, at pace 0 and over all early sets."""
        tour = [[looks[k] for k in row]]
        found = [met(system, Foe(system.many, early, []), tour, 0) for early in all_subsets(range(system.many))]
        if live_paths(system, looks):
            self.assertEqual(max(n for n in found if n is not None), passes_needed(system, looks, tour[0]))
        else:
            self.assertEqual({n for n in found if n is not None}, {0})


if __name__ == "__main__":
    unittest.main()
