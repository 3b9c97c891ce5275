"""Points 151 to 153: phrases as strong as others, and what rows of looks make clean."""

import unittest

from deeplooks.covers import Hearing, reaches
from deeplooks.errors import BadLine, BadLot, BadNumber, BadPhrase, TooMany
from deeplooks.events import look_order
from deeplooks.foes import Foe
from deeplooks.lots import least_open, lot_open
from deeplooks.openness import is_open
from deeplooks.phrases import Ask, Branch, Look, beside, in_turn
from deeplooks.phrasetexts import phrase_from
from deeplooks.sieves import sieve
from deeplooks.strength import as_strong, clean_end, shuts, weaker_lot
from deeplooks.systems import System
from tests.asked import cleaned, some_lot, some_pairs, wrong_levels, wrong_rows
from tests.helpers import NO_INTEGERS, Case, seeded, some_foe
from tests.slowopen import all_lots, all_needs, aims_of_phrase, is_above, looks_of, some_looks
from tests.slowsieve import Forms, one_place, reached, unheard_forms
from tests.test_phrases import NO_PHRASES


class AsStrong(Case):

    def check(self, system, phrase, other, part):
        """weaker_lot and as_strong agree with trying every lot."""
        aim = (part, None)
        open_lots = [lot for lot in all_lots(system.many) if lot_open(system, phrase, aim, lot)]
        right = all(lot_open(system, other, aim, lot) for lot in open_lots)
        self.assertIs(as_strong(system, phrase, other, part), right)
        found = weaker_lot(system, phrase, other, part)
        self.assertEqual(found is None, right)
        self.told[right] = self.told.get(right, 0) + 1
        lots = [lot for lot in least_open(system, phrase, aim)
                if not any(is_above(lot, low) for low in least_open(system, other, aim))]
        self.assertEqual(found, lots[0] if lots else None)
        if found is not None:
            self.assertIs(type(found), tuple)
            self.assertIs(lot_open(system, phrase, aim, found), True)
            self.assertIs(lot_open(system, other, aim, found), False)

    def test_two_parts_whole(self):
        self.told = {}
        chance = seeded(330)
        looks = [Look(a, b) for a in range(2) for b in range(2)]
        phrases = [Ask(0, look) for look in looks] + [phrase_from("@0(!)")]
        phrases += [Ask(0, Branch(one, other, together=way)) for one in looks for other in looks for way in (True, False)]
        for system in all_needs(2):
            for phrase in phrases:
                for other in chance.sample(phrases, 5):
                    for part in range(2):
                        self.check(system, phrase, other, part)
        self.assertGreater(min(self.told.values()), 150)

    def test_larger_ones_both_ways_round(self):
        self.told = {}
        chance = seeded(331)
        for _ in range(90):
            many = chance.randrange(3, 5)
            system = one_place(chance, many)
            phrase, other = some_looks(chance, many, 4), some_looks(chance, many, 4)
            part = chance.randrange(many)
            self.check(system, phrase, other, part)
            self.check(system, other, phrase, part)
            self.check(system, phrase, phrase, part)
        self.assertGreater(min(self.told.values()), 30)

    def test_more_order_and_more_looks(self):
        chance = seeded(332)
        counted = 0
        for _ in range(150):
            many = chance.randrange(2, 5)
            system = one_place(chance, many)
            looks = [Look(chance.randrange(many), chance.randrange(many)) for _ in range(chance.randrange(1, 5))]
            loose = beside(*looks) if chance.random() < 0.6 else beside(in_turn(*looks[:2]), *looks[2:])
            tight = chance.choice([in_turn(*looks), beside(in_turn(*looks[:2]), *looks[2:], together=False)])
            phrase = Ask(0, loose)
            other = Ask(0, Branch(tight, Look(chance.randrange(many), chance.randrange(many)), together=True))
            if not all(pair in look_order(system, other).pairs for pair in look_order(system, phrase).pairs):
                continue
            counted += 1
            for part in range(many):
                self.assertIs(as_strong(system, other, phrase, part), True)
            foe = some_foe(chance, many, 5)
            for aim in aims_of_phrase(phrase, many):
                if is_open(system, foe, other, aim):
                    self.assertIs(is_open(system, foe, phrase, aim), True)
        self.assertGreater(counted, 60)

    def test_eight_looks_and_five_parts(self):
        system = System(1, [0] * 5, [[]] * 5, [0])
        looks = [Look((4 - k) % 5, (3 - k) % 5) for k in range(8)]
        # Three looks in turn beside three in turn beside two: 560 look rows.
        phrase = Ask(0, beside(in_turn(*looks[:3]), in_turn(*looks[3:6]), in_turn(*looks[6:])))
        other = Ask(0, in_turn(*looks))
        self.assertIs(as_strong(system, other, phrase, 1), True)
        self.assertIsNone(weaker_lot(system, other, phrase, 1))
        lots = [weaker_lot(system, phrase, other, part) for part in range(5)]
        self.assertNotEqual(lots, [None] * 5)
        for part, lot in enumerate(lots):
            if lot is not None:
                self.assertIs(lot_open(system, phrase, (part, None), lot), True)
                self.assertIs(lot_open(system, other, (part, None), lot), False)

    def test_errors_in_their_order(self):
        system, right = System(1, [0, 0], [[], []], [0]), phrase_from("@0(0>1)")
        for value in NO_PHRASES + [Look(0, 1)]:
            word = "judge" if isinstance(value, Look) else "phrase"
            for call in (weaker_lot, as_strong):
                self.raises(BadPhrase, word, call, system, value, None, None)
                self.raises(BadPhrase, word, call, system, right, value, None)
        many = Ask(0, beside(*[Look(0, 1) for _ in range(7)]))
        for call in (weaker_lot, as_strong):
            for value in NO_INTEGERS + [-1, 2]:
                self.raises(BadNumber, "part", call, system, many, right, value)
            self.raises(TooMany, "rows", call, system, many, right, 0)
            self.raises(TooMany, "rows", call, system, right, many, 0)
            six = System(1, [0] * 6, [[]] * 6, [0])
            self.raises(TooMany, "rows", call, six, many, right, 0)
            # The first phrase's parts are told ahead of the other one's rows.
            self.raises(TooMany, "parts", call, six, right, many, 0)
            self.raises(TooMany, "parts", call, six, right, right, 0)


class Rows(Case):

    def test_by_the_words(self):
        chance = seeded(333)
        for _ in range(300):
            many = chance.randrange(1, 9)
            system, levels = one_place(chance, many), some_lot(chance, many)
            row = some_pairs(chance, many, chance.randrange(0, 12))
            right = tuple(sorted(cleaned(system, levels, row)[-1]))
            self.assertEqual(clean_end(system, row, list(levels)), right)
            for part in range(many):
                self.assertIs(shuts(system, tuple(row), levels, part), part in right)

    def test_by_the_greatest_unheard_run(self):
        chance = seeded(334)
        for _ in range(200):
            many = chance.randrange(1, 6)
            system, levels = one_place(chance, many), some_lot(chance, many)
            row = some_pairs(chance, many, chance.randrange(0, 9))
            run = sieve(Foe.of_lot(levels), row, Hearing(system, row))
            for part in range(many):
                self.assertIs(shuts(system, row, levels, part), not reaches(row, run, (part, None)))

    def test_by_listing_all_runs(self):
        chance = seeded(335)
        for levels in all_lots(2):
            forms = Forms(Foe.of_lot(levels))
            for system in all_needs(2):
                for _ in range(12):
                    row = some_pairs(chance, 2, chance.randrange(0, 4))
                    unheard = unheard_forms(system, row, forms.of(len(row)))
                    for part in range(2):
                        right = not any(reached(form, (part, None)) for form in unheard)
                        self.assertIs(shuts(system, row, levels, part), right)

    def test_forty_looks_and_none(self):
        system = System(1, [0] * 8, [[]] * 8, [0])
        ring = [((k + 1) % 8, k) for k in range(8)]
        # Each pass makes one more clean, and backwards one pass is enough.
        self.assertEqual(clean_end(system, ring * 5, [1] * 7 + [0]), (2, 3, 4, 5, 6, 7))
        self.assertEqual(clean_end(system, ring[::-1] * 5, [1] * 7 + [0]), tuple(range(8)))
        self.assertEqual(clean_end(system, ring[:4] * 10, [1] * 7 + [0]), (7,))
        self.assertEqual(clean_end(system, (), [0, 1, 2, 0, 1, 2, 0, 0]), (0, 3, 6, 7))
        self.raises(BadLine, -1, clean_end, system, [(0, 1)] * 41, [0] * 8)
        for _ in range(40):
            self.assertEqual(len(clean_end(system, [(0, 1)] * 40, [2] * 8)), 0)

    def test_void_looks_make_nothing_clean(self):
        system = System(1, [0, 0], [[1], []], [0])
        self.assertEqual(clean_end(system, [(0, 1), (0, 0), (1, 1)] * 3, (0, 1)), (0,))

    def test_errors_in_their_order(self):
        system = System(1, [0, 0, 0], [[], [], []], [0])
        for value, place in wrong_rows(3, 40):
            self.raises(BadLine, place, clean_end, system, value, None)
            self.raises(BadLine, place, shuts, system, value, None, None)
        for value, place in wrong_levels(3):
            self.raises(BadLot, place, clean_end, system, [], value)
            self.raises(BadLot, place, shuts, system, [(0, 1)], value, None)
        for value in NO_INTEGERS + [-1, 3]:
            self.raises(BadNumber, "part", shuts, system, [], [0, 1, 2], value)
        row, levels = [[0, 1], (2, 1)], [0, 1, 2]
        shuts(system, row, levels, 1)
        self.assertEqual((row, levels), ([[0, 1], (2, 1)], [0, 1, 2]))
        self.assertEqual(looks_of(phrase_from("@0(0>1)")), [(0, 1)])


if __name__ == "__main__":
    unittest.main()
