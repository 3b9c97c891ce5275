"""Points 108, 110 to 112: lots, sure looks, trust sets, local parts."""

import unittest

from deeplooks.covers import Hearing
from deeplooks.errors import BadFoe, BadLot, BadNumber, BadPhrase, TooMany
from deeplooks.foes import Foe
from deeplooks.lots import greatest_shut, least_open, local_parts, lot_open, trust_sets
from deeplooks.openness import is_open
from deeplooks.phrases import Ask, Branch, Look, Then, beside, in_turn
from deeplooks.phrasetexts import phrase_from
from deeplooks.prices import Prices, cheapest
from deeplooks.sets import least_sets, meeting_sets
from deeplooks.sieves import sieve
from deeplooks.sure import once_each, sure_looks
from deeplooks.systems import System
from tests.fitting import fitting_phrases
from tests.helpers import FOUR, NO_INTEGERS, NO_LISTS, Case, all_subsets, seeded, some_foe
from tests.slowopen import (all_lots, aims_of_phrase, is_above, line_of, look_rows, looks_of, small_phrases, some_looks)
from tests.slowsieve import one_place, small_systems
from tests.test_phrases import NO_PHRASES

FIVE = System(1, [0] * 5, [[]] * 5, [0])
SIX = Ask(0, beside(*[Look(k % 5, (k + 1) % 5) for k in range(6)]))
SEVEN = Ask(0, beside(*[Look(k % 5, (k + 1) % 5) for k in range(7)]))
LEVELS = [[0, 0, 3], [0, 0, -1], [0, 0, True], [0, 0, None], [0, 0, "1"]]


class Lots(Case):

    def check(self, system, phrase):
        """All lots for all aims, each asked for alone, and what is least and greatest."""
        lots = all_lots(system.many)
        for aim in aims_of_phrase(phrase, system.many):
            opened = [lot for lot in lots if lot_open(system, phrase, aim, list(lot))]
            for lot in lots:
                self.assertEqual(is_open(system, Foe.of_lot(lot), phrase, aim), lot in opened)
            shut = [lot for lot in lots if lot not in opened]
            least = [lot for lot in opened if not any(other != lot and is_above(lot, other) for other in opened)]
            greatest = [lot for lot in shut if not any(other != lot and is_above(other, lot) for other in shut)]
            self.assertEqual(least_open(system, phrase, aim), least)
            self.assertEqual(greatest_shut(system, phrase, aim), greatest)
            self.assertIn((0,) * system.many, shut)
            for lot in lots:
                above = any(is_above(lot, other) for other in least)
                self.assertNotEqual(above, any(is_above(other, lot) for other in greatest))

    def test_small_ones_whole(self):
        for system in small_systems():
            for phrase in small_phrases(2):
                self.check(system, phrase)

    def test_larger_ones(self):
        chance = seeded(150)
        for _ in range(25):
            many = chance.randrange(2, 4)
            self.check(one_place(chance, many), some_looks(chance, many, 4))
        for _ in range(4):
            self.check(one_place(chance, 4), some_looks(chance, 4, 3))

    def test_lists_of_tuples(self):
        found = least_open(FIVE, SIX, (2, None))
        self.assertIs(type(found), list)
        self.assertEqual([type(lot) for lot in found + greatest_shut(FIVE, SIX, [2, None])][:1], [tuple])
        found.clear()
        self.assertEqual(least_open(FIVE, SIX, (2, None)), [(0, 0, 2, 0, 0), (0, 1, 1, 0, 0)])
        self.assertEqual(least_open(FIVE, phrase_from("@0(!)"), (2, None)), [(0, 0, 1, 0, 0)])

    def test_five_parts_and_six(self):
        six = System(1, [0] * 6, [[]] * 6, [0])
        for call in (least_open, greatest_shut):
            self.assertTrue(call(FIVE, SIX, (2, None)))
            self.raises(TooMany, "rows", call, six, SEVEN, (2, None))
            self.raises(TooMany, "parts", call, six, SIX, (2, None))
        self.raises(TooMany, "rows", trust_sets, six, SEVEN, 2)
        self.raises(TooMany, "parts", trust_sets, six, SIX, 2)
        self.raises(TooMany, "rows", lot_open, six, SEVEN, (2, None), [0] * 6)
        self.assertIs(lot_open(six, SIX, (2, None), [0, 1, 1, 0, 0, 0]), True)
        self.assertTrue(trust_sets(FIVE, SIX, 2))

    def test_errors_of_levels(self):
        phrase, system = phrase_from("@0(0>1)"), System(1, [0] * 3, [[]] * 3, [0])
        calls = [lambda value: lot_open(system, phrase, (1, None), value), lambda value: sure_looks(system, phrase, value)]
        for call in calls:
            for value in NO_LISTS + [[], [0] * 9, [0], [0, 0], [0] * 4]:
                self.raises(BadLot, -1, call, value)
            for value in LEVELS + [[0, 0, 3, 0]]:
                self.raises(BadLot, 2, call, value)
        self.raises(BadLot, -1, lot_open, FIVE, SEVEN, (2, None), [0])
        self.raises(BadPhrase, "phrase", sure_looks, system, None, None)


class Trust(Case):

    def by_the_words(self, system, phrase, part):
        """All trust sets for the part, by point 111."""
        lots = [lot for lot in all_lots(system.many) if lot[part] < 2]
        others = [p for p in range(system.many) if p != part]
        return [chosen for chosen in all_subsets(others)
                if not any(lot_open(system, phrase, (part, None), lot) for lot in lots if all(lot[z] == 0 for z in chosen))]

    def check(self, system, phrase):
        """The least trust sets for each part."""
        for part in range(system.many):
            found = trust_sets(system, phrase, part)
            self.assertIs(type(found), list)
            right = self.by_the_words(system, phrase, part)
            self.assertEqual(found, least_sets(right))
            some = any(b == part and part not in system.needs[a] for a, b in looks_of(phrase))
            self.assertEqual(bool(found), some)
            lots = [lot for lot in least_open(system, phrase, (part, None)) if lot[part] == 1]
            families = [tuple(p for p in range(system.many) if p != part and lot[p] > 0) for lot in lots]
            self.assertEqual(found, meeting_sets(families, tuple(p for p in range(system.many) if p != part)))

    def test_small_ones_whole(self):
        for system in small_systems():
            for phrase in small_phrases(2):
                self.check(system, phrase)

    def test_larger_ones(self):
        chance = seeded(151)
        for _ in range(25):
            many = chance.randrange(2, 5)
            self.check(one_place(chance, many), some_looks(chance, many, 4))

    def test_errors(self):
        for value in NO_INTEGERS + [-1, 5]:
            self.raises(BadNumber, "part", trust_sets, FIVE, SEVEN, value)


class Sure(Case):

    def by_the_words(self, system, phrase, levels):
        """The sure looks, look by look, by point 110."""
        looks = looks_of(phrase)
        rows = look_rows(phrase)
        ahead = {(d, e) for d in range(len(looks)) for e in range(len(looks))
                 if d != e and all(row.index(d) < row.index(e) for row in rows)}

        def is_sure(e):
            return all(levels[x] == 0 or levels[x] == 1 and
                       any(looks[d][1] == x and (d, e) in ahead and is_sure(d) for d in range(len(looks)))
                       for x in system.needs[looks[e][0]])
        return tuple(e for e in range(len(looks)) if is_sure(e))

    def check(self, system, phrase):
        """The sure looks of all lots, and what no unheard run does with their targets."""
        looks = looks_of(phrase)
        for lot in all_lots(system.many):
            sure = sure_looks(system, phrase, list(lot))
            self.assertEqual(sure, self.by_the_words(system, phrase, lot))
            foe, last = Foe.of_lot(lot), set()
            for row in look_rows(phrase):
                line = line_of(phrase, row)
                run = sieve(foe, line, Hearing(system, line))
                last |= set(run.moments[-1])
                for e in sure:
                    target, i = looks[e][1], row.index(e)
                    self.assertNotIn(target, run.states[i])
                    if lot[target] < 2:
                        self.assertFalse(any(target in held for held in run.moments[i + 1:]))
            if once_each(phrase):
                for part in [p for p in range(system.many) if lot[p] == 1]:
                    self.assertEqual(part in last, part not in [looks[e][1] for e in sure])

    def test_small_ones_whole(self):
        for system in small_systems():
            for phrase in small_phrases(2):
                self.check(system, phrase)

    def test_larger_ones(self):
        chance = seeded(152)
        for _ in range(40):
            many = chance.randrange(2, 5)
            self.check(one_place(chance, many), some_looks(chance, many, 4))

    def test_a_chain(self):
        system = System.standing(1, [0] * 4, [[], [0], [1], [2]], [0])
        phrase = Ask(0, in_turn(Look(0, 1), Look(1, 2), Look(2, 3)))
        self.assertEqual(sure_looks(system, phrase, [0, 1, 1, 1]), (0, 1, 2))
        self.assertEqual(sure_looks(system, phrase, (0, 1, 2, 1)), (0, 1))
        self.assertEqual(sure_looks(system, phrase, (1, 0, 0, 0)), ())

    def test_once_each(self):
        told = [("@0((0>1 -> 1>0))", True), ("@0((0>1 -> 2>1))", False), ("@0(!)", True), ("(0>1 +~+ 0>1)", False)]
        for text, right in told:
            self.assertIs(once_each(phrase_from(text)), right)
        look = Look(7, 7)
        self.assertIs(once_each(Branch(look, Then(Look(7, 6), look))), False)
        for value in NO_PHRASES:
            self.raises(BadPhrase, "phrase", once_each, value)


class Local(Case):

    def by_the_words(self, system, foe, phrase, part):
        """The local parts: the least of all sets that are closed as point 112 tells."""
        least = None
        for chosen in all_subsets(range(system.many)):
            held = set(chosen)
            closed = part in held
            for a, b in looks_of(phrase):
                closed = closed and (b not in held or set(system.needs[a]) <= held)
            for q, p in foe.rules:
                closed = closed and (p not in held or p in q or set(q) <= held)
            if closed:
                least = held if least is None else least & held
        return tuple(sorted(least))

    def test_local_parts(self):
        chance = seeded(153)
        for _ in range(200):
            many = chance.randrange(1, 6)
            system, foe, phrase = one_place(chance, many), some_foe(chance, many), some_looks(chance, many, 3)
            for part in range(many):
                self.assertEqual(local_parts(system, foe, phrase, part), self.by_the_words(system, foe, phrase, part))

    def test_what_is_not_local_may_be_left_out(self):
        chance = seeded(154)
        tried = 0
        for _ in range(150):
            system, foe, phrase = one_place(chance, 4), some_foe(chance, 4, 4), some_looks(chance, 4, 3)
            part = chance.randrange(4)
            local = local_parts(system, foe, phrase, part)
            kept = without_other_looks(phrase, local)
            if len(local) == 4 or kept is None:
                continue
            tried += 1
            rules = [rule for rule in foe.rules if rule[1] in local]
            bare = Foe(4, [p for p in foe.early if p in local], rules, stuck=[p for p in foe.stuck if p in local])
            aims = [(part, None)] + [(part, number) for number, look in enumerate(looks_of(phrase)) if look[1] == part]
            others = [(part, None)] + [(part, number) for number, look in enumerate(looks_of(kept)) if look[1] == part]
            prices = Prices([1, 2, 3, 5], [2 + k for k in range(len(foe.rules))], [1, 0, 2, 1])
            bare_prices = Prices(prices.early, [prices.rules[foe.rules.index(rule)] for rule in bare.rules], prices.mends)
            for aim, other in zip(aims, others):
                self.assertEqual(is_open(system, foe, phrase, aim), is_open(system, bare, kept, other))
                one = cheapest(system, foe, phrase, aim, prices)
                two = cheapest(system, bare, kept, other, bare_prices)
                self.assertEqual(one and one[0], two and two[0])
        self.assertGreater(tried, 30)

    def test_least_open_lots(self):
        chance = seeded(155)
        for _ in range(30):
            system, phrase = one_place(chance, 4), some_looks(chance, 4, 3)
            for part in range(4):
                local = local_parts(system, Foe(4, [], []), phrase, part)
                for lot in least_open(system, phrase, (part, None)):
                    self.assertTrue(all(lot[p] == 0 for p in range(4) if p not in local))

    def test_errors(self):
        phrase = next(iter(fitting_phrases(156, 1)))
        self.raises(BadFoe, "many", local_parts, FOUR, Foe(7, [], []), phrase, None)
        for value in NO_INTEGERS + [-1, 8]:
            self.raises(BadNumber, "part", local_parts, FOUR, Foe(8, [], []), phrase, value)
        # A rule to a part that its premise holds does nothing.
        system = System(1, [0] * 3, [[]] * 3, [0])
        foe = Foe(3, [], [([0, 1], 0), ([2], 1)])
        self.assertEqual(local_parts(system, foe, phrase_from("@0(!)"), 0), (0,))
        self.assertEqual(local_parts(system, foe, phrase_from("@0(1>0)"), 0), (0, 1, 2))


def without_other_looks(phrase, parts):
    """The phrase without the looks at other parts, None if nothing is left."""
    if isinstance(phrase, Look):
        return phrase if phrase.target in parts else None
    held = [without_other_looks(part, parts) for part in phrase.parts_of()]
    if not held:
        return phrase
    if isinstance(phrase, Ask):
        return None if held[0] is None else Ask(phrase.place, held[0])
    if None in held:
        return held[0] if held[1] is None else held[1]
    if isinstance(phrase, Then):
        return Then(*held)
    return Branch(*held, keep_left=phrase.keep_left, keep_right=phrase.keep_right, together=phrase.together)


if __name__ == "__main__":
    unittest.main()
