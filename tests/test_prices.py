"""Points 113 to 115: prices, cheapest runs, states and heights, prices and lots."""

import unittest

from deeplooks.covers import reaches, unheard
from deeplooks.deeds import played
from deeplooks.errors import BadDeed, BadNumber, BadPrices, BadSet, TooMany
from deeplooks.events import look_order
from deeplooks.foes import Foe
from deeplooks.lots import least_open
from deeplooks.openness import is_open
from deeplooks.phrases import Ask, Look, beside, in_turn
from deeplooks.phrasetexts import phrase_from
from deeplooks.prices import Prices, cheapest, fewest_deeds, heights_of, is_heights, price_of
from deeplooks.rows import beginnings
from deeplooks.systems import System
from tests.helpers import NO_INTEGERS, NO_LISTS, ODD, Case, all_subsets, seeded, some_foe
from tests.slowopen import aims_of_phrase, all_lots, line_of, look_rows, looks_of, on_row, some_looks, small_phrases
from tests.slowsieve import one_place, small_foes, small_systems

MOST = 10 ** 9


def some_prices(chance, foe):
    """Prices that fit the foe, 0 and equal ones among them."""
    high = chance.choice([1, 3, 9])
    return Prices([chance.randrange(high + 1) for _ in range(foe.many)],
                  [chance.randrange(high + 1) for _ in foe.rules], [chance.randrange(high) for _ in range(foe.many)])


class States:
    """The states, steps and goals of point 114, straight from its words."""

    def __init__(self, system, foe, phrase, aim, prices):
        self.system, self.foe, self.prices, self.aim = system, foe, prices, aim
        self.looks = looks_of(phrase)
        self.order = look_order(system, phrase)
        told = [False] if aim[1] is None else [False, True]
        parts = all_subsets(range(system.many))
        self.all = [(done, bad, r) for done in beginnings(self.order) for bad in parts for r in told]

    def starts(self):
        """The states at the start with their prices."""
        return {((), start, False): sum(self.prices.early[p] for p in start) for start in all_subsets(self.foe.early)}

    def steps(self, state):
        """The steps from a state: (price, state behind it)."""
        done, bad, r = state
        for part in range(self.system.many):
            costs = [self.prices.rules[k] for k, (q, p) in enumerate(self.foe.rules) if p == part and set(q) <= set(bad)]
            if part not in bad and costs:
                yield min(costs), (done, tuple(sorted(bad + (part,))), r)
            if part in bad and part not in self.foe.stuck:
                yield self.prices.mends[part], (done, tuple(p for p in bad if p != part), r)
        for e in self.order.ready(done):
            a, b = self.looks[e]
            if not (b in bad and not set(self.system.needs[a]) & set(bad)):
                now = r or (self.aim == (b, e) and b in bad)
                yield 0, (tuple(sorted(done + (e,))), bad, now)

    def is_goal(self, state):
        """True if the state is a goal."""
        done, bad, r = state
        return len(done) == len(self.looks) and (r if self.aim[1] is not None else self.aim[0] in bad)

    def least(self):
        """The least price to come to each state that can be come to, by going on until nothing falls."""
        best = dict(self.starts())
        falling = list(best)
        while falling:
            after = []
            for state in falling:
                for price, behind in self.steps(state):
                    if best[state] + price < best.get(behind, 10 ** 15):
                        best[behind] = best[state] + price
                        after.append(behind)
            falling = after
        return best

    def are_heights(self, price, heights):
        """True if these are heights for the price."""
        if any(heights[state] > paid for state, paid in self.starts().items()):
            return False
        for state in self.all:
            if self.is_goal(state) and heights[state] < price:
                return False
            if any(heights[behind] > heights[state] + paid for paid, behind in self.steps(state)):
                return False
        return True


class Making(Case):

    def test_prices(self):
        prices = Prices([0, MOST], (1,), [])
        self.assertEqual((prices.early, prices.rules, prices.mends), ((0, MOST), (1,), ()))
        foe = Foe(2, [0], [([0], 1), ([], 1)])
        ones = Prices.ones(foe)
        self.assertEqual((ones.early, ones.rules, ones.mends), ((1, 1), (1, 1), (1, 1)))
        self.assertIs(ones.fits(foe), True)
        for early, rules, mends in [(1, 2, 2), (2, 1, 2), (2, 2, 3), (0, 2, 2), (2, 3, 2), (2, 2, 0)]:
            self.assertIs(Prices([1] * early, [1] * rules, [1] * mends).fits(foe), False)
        told = [1, 2]
        prices = Prices(told, told, told)
        told.append(3)
        self.assertEqual(prices.early, (1, 2))

    def test_errors_in_their_order(self):
        wrong = NO_LISTS + [[-1], [MOST + 1], [True], [0, None], ["1"], [1.0]]
        for value in wrong:
            self.raises(BadPrices, "early", Prices, value, None, None)
            self.raises(BadPrices, "rules", Prices, [], value, None)
            self.raises(BadPrices, "mends", Prices, [], [MOST], value)

    def test_errors_of_prices(self):
        foe, system, phrase = Foe(2, [0], [([0], 1)]), System(1, [0, 0], [[], []], [0]), phrase_from("@0(0>1)")
        for value in [None, [], ([0, 0], [0], [0, 0]), ODD, Prices([0, 0], [], [0, 0]), Prices([0], [0], [0, 0]),
                      Prices([0, 0], [0], [0])]:
            self.raises(BadPrices, "foe", price_of, foe, value, None, None)
            self.raises(BadPrices, "foe", cheapest, system, foe, phrase, (1, None), value)
            self.raises(BadPrices, "foe", heights_of, system, foe, phrase, (1, None), value)
            self.raises(BadPrices, "foe", is_heights, system, foe, phrase, (1, None), value, -1, None)
        prices = Prices.ones(foe)
        for value in NO_LISTS + [[1], [0, 0]]:
            self.raises(BadSet, "start", price_of, foe, prices, value, [[None]])
        self.raises(BadDeed, (0, 1), price_of, foe, prices, [0], [[("corrupt", 1), ("corrupt", 1)]])
        for value in NO_INTEGERS + [-1]:
            self.raises(BadNumber, "price", is_heights, system, foe, phrase, (1, None), prices, value, None)


class PriceOf(Case):

    def test_prices_of_deeds(self):
        foe = Foe(3, [0, 2], [([], 0), ([0], 1), ([2], 1), ([0, 2], 1)])
        self.assertEqual(foe.rules, (((), 0), ((0,), 1), ((2,), 1), ((0, 2), 1)))
        prices = Prices([10, 0, 20], [1, 7, 5, 3], [100, 200, 300])
        told = [([], [[]], 0), ([0], [[]], 10), ([2, 0], [[("corrupt", 1)]], 33), ((0,), ([("corrupt", 1)],), 17),
                ((2,), [[["corrupt", 1]], [("mend", 1), ("corrupt", 0), ("corrupt", 1)]], 20 + 5 + 200 + 1 + 3),
                ((0, 2), [[("mend", 0)], [("corrupt", 1), ("mend", 2)]], 30 + 100 + 5 + 300)]
        for start, gaps, price in told:
            self.assertEqual(price_of(foe, prices, start, gaps), price)

    def test_changes_nothing(self):
        foe = Foe(2, [0], [([0], 1)])
        start, gaps = [0], [[["corrupt", 1]]]
        self.assertEqual(price_of(foe, Prices.ones(foe), start, gaps), 2)
        self.assertEqual((start, gaps), ([0], [[["corrupt", 1]]]))


class Cheapest(Case):

    def check(self, chance, system, foe, phrase):
        """The cheapest run and its heights for all aims."""
        prices = some_prices(chance, foe)
        for aim in aims_of_phrase(phrase, system.many):
            states = States(system, foe, phrase, aim, prices)
            best = states.least()
            goals = [best[state] for state in best if states.is_goal(state)]
            found = cheapest(system, foe, phrase, list(aim), prices)
            self.assertEqual(found is not None, bool(goals))
            self.assertEqual(found is not None, is_open(system, foe, phrase, aim))
            heights = heights_of(system, foe, phrase, aim, prices)
            if not goals:
                self.assertIsNone(heights)
                self.check_shut(states, system, foe, phrase, aim, prices, best)
                continue
            price = min(goals)
            self.check_run(system, foe, phrase, aim, prices, found, price)
            self.assertEqual(heights, {state: min(best.get(state, price), price) for state in states.all})
            self.assertIs(is_heights(system, foe, phrase, aim, prices, price, heights), True)
            self.assertIs(is_heights(system, foe, phrase, aim, prices, price + 1, heights), False)
            self.check_bent(chance, states, system, foe, phrase, aim, prices, price, heights)

    def check_run(self, system, foe, phrase, aim, prices, found, price):
        """The run is one, reaches the aim unheard, and costs what it tells."""
        told, row, start, gaps = found
        self.assertEqual(told, price)
        self.assertEqual(price_of(foe, prices, start, gaps), price)
        self.assertIn(row, look_rows(phrase))
        self.is_tuple_set(start)
        self.assertIs(type(gaps), tuple)
        self.assertEqual(len(gaps), len(row) + 1)
        for deeds in gaps:
            self.assertIs(type(deeds), tuple)
            self.assertEqual(len(set(deeds)), len(deeds))
        run = played(foe, start, gaps)
        self.assertTrue(unheard(system, line_of(phrase, row), run))
        self.assertTrue(reaches(line_of(phrase, row), run, on_row(aim, row)))

    def check_shut(self, states, system, foe, phrase, aim, prices, best):
        """If the phrase is shut there are heights for each price."""
        for price in (0, 7, 10 ** 12):
            heights = {state: min(best.get(state, price), price) for state in states.all}
            self.assertIs(is_heights(system, foe, phrase, aim, prices, price, heights), True)

    def check_bent(self, chance, states, system, foe, phrase, aim, prices, price, heights):
        """Heights with one changed are heights exactly if point 114 says so."""
        for _ in range(3):
            other = dict(heights)
            state = chance.choice(list(other))
            other[state] += chance.choice([-3, -1, 1, 2])
            right = states.are_heights(price, other)
            self.told[right] = self.told.get(right, 0) + 1
            other["more"] = None
            self.assertIs(is_heights(system, foe, phrase, aim, prices, price, other), right)

    def test_small_ones_whole(self):
        chance = seeded(160)
        self.told = {}
        phrases = list(small_phrases(2))
        for foe in small_foes():
            for system in small_systems():
                self.check(chance, system, foe, chance.choice(phrases))
        self.assertGreater(min(self.told.values()), 100)

    def test_larger_ones(self):
        chance = seeded(161)
        self.told = {}
        for _ in range(60):
            many = chance.randrange(2, 5)
            self.check(chance, one_place(chance, many), some_foe(chance, many, 7), some_looks(chance, many, 3))

    def test_no_part_is_done_and_undone(self):
        # All is free of price, and still no gap does a deed twice.
        chance = seeded(162)
        for _ in range(60):
            system, phrase = one_place(chance, 4), some_looks(chance, 4, 4)
            foe = some_foe(chance, 4, 8)
            prices = Prices([0] * 4, [0] * len(foe.rules), [0] * 4)
            for aim in aims_of_phrase(phrase, 4):
                found = cheapest(system, foe, phrase, aim, prices)
                if found is not None:
                    self.check_run(system, foe, phrase, aim, prices, found, 0)

    def test_fewest_deeds(self):
        chance = seeded(163)
        for _ in range(60):
            system, foe, phrase = one_place(chance, 3), some_foe(chance, 3), some_looks(chance, 3, 3)
            for aim in aims_of_phrase(phrase, 3):
                found = cheapest(system, foe, phrase, aim, Prices.ones(foe))
                self.assertEqual(fewest_deeds(system, foe, phrase, aim), None if found is None else found[0])

    def test_two_thousand_states_and_more(self):
        seven = System(1, [0] * 7, [[]] * 7, [0])
        phrase = Ask(0, in_turn(*[Look(k % 7, (k + 1) % 7) for k in range(10)]))
        foe = Foe(7, list(range(7)), [])
        # Each look is covered by the part that the look ahead of it finds, so all seven are bad.
        self.assertEqual(fewest_deeds(seven, foe, phrase, (1, None)), 7)
        self.assertEqual(len(heights_of(seven, foe, phrase, (1, 0), Prices.ones(foe))), 2 * 11 * 128)
        # Five pairs of looks in turn have 243 beginnings: 1944 states; eight looks together have 256.
        three, late = System(1, [0] * 3, [[]] * 3, [0]), Foe(3, [0, 1], [([1], 2)])
        phrase = Ask(0, beside(*[in_turn(Look(0, 1), Look(1, 2))] * 5))
        self.assertEqual(len(heights_of(three, late, phrase, (2, None), Prices.ones(late))), 1944)
        self.assertEqual(fewest_deeds(three, late, phrase, (2, None)), 3)
        self.raises(TooMany, "states", fewest_deeds, three, late, Ask(0, beside(*[Look(0, 1)] * 8)), (2, None))
        small = System(1, [0], [[]], [0])
        phrase = Ask(0, beside(*[Look(0, 0)] * 9))
        one = Foe(1, [0], [])
        self.assertEqual(fewest_deeds(small, one, phrase, (0, None)), 1)
        phrase, prices = Ask(0, beside(*[Look(0, 0)] * 10)), Prices.ones(one)
        self.raises(TooMany, "states", cheapest, small, one, phrase, (0, None), prices)
        self.raises(TooMany, "states", heights_of, small, one, phrase, (0, None), prices)
        self.raises(TooMany, "states", is_heights, small, one, phrase, (0, None), prices, -1, None)
        self.raises(TooMany, "states", fewest_deeds, small, one, phrase, (0, None))
        self.raises(BadPrices, "foe", cheapest, small, one, phrase, (0, None), None)

    def test_prices_up_to_the_most(self):
        system, foe = System(1, [0, 0], [[], []], [0]), Foe(2, [0], [([0], 1)])
        prices = Prices([MOST, 0], [MOST], [MOST, 0])
        found = cheapest(system, foe, phrase_from("@0(0>0)"), (1, None), prices)
        self.assertEqual(found[0], 2 * MOST)

    def test_heights_of_any_kind(self):
        system, foe, phrase = System(1, [0, 0], [[], []], [0]), Foe(2, [1], []), phrase_from("@0(!)")
        prices = Prices.ones(foe)
        right = heights_of(system, foe, phrase, (1, None), prices)
        self.assertEqual(right, {((), (), False): 0, ((), (0,), False): 1, ((), (1,), False): 1, ((), (0, 1), False): 1})
        self.assertIs(is_heights(system, foe, phrase, (1, None), prices, 1, right), True)
        # 0 is found as False is by a dict.
        self.assertIs(is_heights(system, foe, phrase, (1, None), prices, 1, {(a, b, 0): h for (a, b, _), h in right.items()}),
                      True)
        for state in right:
            for value in [None, True, 1.0, "1", ODD]:
                self.assertIs(is_heights(system, foe, phrase, (1, None), prices, 1, {**right, state: value}), False)
            lacking = {other: h for other, h in right.items() if other != state}
            self.assertIs(is_heights(system, foe, phrase, (1, None), prices, 1, lacking), False)
        for value in NO_LISTS + [[], list(right.items()), ()]:
            self.assertIs(is_heights(system, foe, phrase, (1, None), prices, 1, value), False)
        right.clear()
        self.assertEqual(len(heights_of(system, foe, phrase, (1, None), prices)), 4)


class PricesAndLots(Case):

    def test_sums_of_lots(self):
        chance = seeded(164)
        for _ in range(60):
            many = chance.randrange(2, 4)
            system, phrase = one_place(chance, many), some_looks(chance, many, 3)
            foe = Foe(many, list(range(many)), [((), p) for p in range(many)])
            early = [chance.randrange(5) for _ in range(many)]
            late = [price + chance.randrange(4) for price in early]
            prices = Prices(early, late, [0] * many)
            for aim in aims_of_phrase(phrase, many):
                least = least_open(system, phrase, aim)
                found = cheapest(system, foe, phrase, aim, prices)
                self.assertEqual(found is not None, bool(least))
                if found is not None:
                    self.check(phrase, early, late, least, found[0])

    def check(self, phrase, early, late, least, price):
        """The cheapest price against the sums of the open lots, by point 115."""
        opened = [lot for lot in all_lots(len(early)) if any(all(a >= b for a, b in zip(lot, one)) for one in least)]
        sums = {lot: sum((0, early[p], late[p])[level] for p, level in enumerate(lot)) for lot in opened}
        lowest = min(sums.values())
        self.assertGreaterEqual(price, lowest)
        if any(sums[lot] == lowest and 2 not in lot for lot in opened):
            self.assertEqual(price, lowest)
        targets = [look[1] for look in looks_of(phrase)]
        for lot in opened:
            most = sum((0, early[p], late[p] * (1 + targets.count(p)))[level] for p, level in enumerate(lot))
            self.assertLessEqual(price, most)

    def test_more_looks_in_more_order(self):
        chance = seeded(165)
        for _ in range(60):
            system, foe = one_place(chance, 3), some_foe(chance, 3)
            looks = [Look(chance.randrange(3), chance.randrange(3)) for _ in range(3)]
            one = Ask(0, beside(looks[0], looks[1]))
            other = Ask(0, in_turn(looks[0], looks[1], looks[2]))
            prices = some_prices(chance, foe)
            for aim in aims_of_phrase(one, 3):
                first, second = cheapest(system, foe, one, aim, prices), cheapest(system, foe, other, aim, prices)
                if second is not None:
                    self.assertIsNotNone(first)
                    self.assertLessEqual(first[0], second[0])


if __name__ == "__main__":
    unittest.main()
