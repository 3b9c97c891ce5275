"""Point 201: what can shut an open phrase."""

import unittest

from deeplooks.errors import BadAim, BadFoe, BadLot, BadNumber, BadOrder, BadPhrase, BadSet, TooMany
from deeplooks.feeding import feeding_order, feeding_ring
from deeplooks.foes import Foe
from deeplooks.leavings import bare, signed_at
from deeplooks.lots import lot_open, trust_sets
from deeplooks.mending import least_trust, mend_told, order_helps
from deeplooks.needed import fewest_signs
from deeplooks.openness import is_open
from deeplooks.phrases import Ask, Look, Sign, beside, in_turn
from deeplooks.phrasetexts import phrase_from
from deeplooks.plays import plays_of
from deeplooks.readers import taken_way
from deeplooks.rows import row_count, rows_of
from deeplooks.selfkept import greatest_kept
from deeplooks.systems import System
from tests.asked import cleaned, single_looks, some_lot, wrong_levels, wrong_looks
from tests.helpers import NO_INTEGERS, NO_LISTS, Case, all_subsets, seeded, some_foe
from tests.slowblame import parts_of_form
from tests.slowopen import aims_of_phrase, line_of, look_rows, on_row, some_looks
from tests.slowsieve import Forms, one_place, reached, unheard_forms
from tests.slowstarts import small_phrase, small_system
from tests.test_feeding import RING
from tests.test_phrases import NO_PHRASES


class Trust(Case):

    def test_the_first_of_the_trust_sets(self):
        chance = seeded(500)
        told = {}
        for _ in range(80):
            many = chance.randrange(1, 6)
            system, phrase, part = one_place(chance, many), some_looks(chance, many, 4), chance.randrange(many)
            sets = trust_sets(system, phrase, part)
            found = least_trust(system, phrase, part)
            told[found is None] = told.get(found is None, 0) + 1
            self.assertEqual(found, sets[0] if sets else None)
            if found is not None:
                levels = [0 if p in found else 1 if p == part else 2 for p in range(many)]
                self.assertIs(lot_open(system, phrase, (part, None), levels), False)
        self.assertGreater(min(told.values()), 15)

    def test_errors(self):
        system = System(1, [0] * 6, [[]] * 6, [0])
        for value in NO_PHRASES + [Look(0, 1)]:
            self.raises(BadPhrase, "judge" if isinstance(value, Look) else "phrase", least_trust, system, value, None)
        many = Ask(0, beside(*[Look(0, 1)] * 7))
        for value in NO_INTEGERS + [-1, 6]:
            self.raises(BadNumber, "part", least_trust, system, many, value)
        self.raises(TooMany, "rows", least_trust, system, many, 0)
        self.raises(TooMany, "parts", least_trust, system, phrase_from("@0(0>1)"), 0)


class Orders(Case):

    def test_each_best_order_or_none(self):
        chance = seeded(501)
        told = {}
        while len(told) < 2 or min(told.values()) < 60:
            many = chance.randrange(2, 7)
            system, looks = one_place(chance, many), single_looks(chance, many, chance.randrange(1, min(4, many) + 1))
            levels, part = some_lot(chance, many), chance.randrange(many)
            if feeding_ring(system, looks) is not None:
                self.raises(BadOrder, "ring", order_helps, system, looks, levels, part)
                continue
            rows = [[looks[k] for k in row] for row in rows_of(feeding_order(system, looks))]
            shut = {part in cleaned(system, levels, row)[-1] for row in rows}
            self.assertEqual(len(shut), 1)
            found = order_helps(system, [list(look) for look in looks], levels, part)
            self.assertIs(found, shut.pop())
            self.assertIs(found, part not in greatest_kept(system, looks, levels))
            told[found] = told.get(found, 0) + 1

    def test_errors_in_their_order(self):
        system, looks = System(1, [0] * 3, [[]] * 3, [0]), [(0, 1), (1, 2)]
        for value in wrong_looks(3) + [[(0, 1), (2, 1)]]:
            self.raises(BadSet, "looks", order_helps, system, value, None, None)
        for value, place in wrong_levels(3):
            self.raises(BadLot, place, order_helps, system, looks, value, None)
        for value in NO_INTEGERS + [-1, 3]:
            self.raises(BadNumber, "part", order_helps, system, looks, [1, 1, 1], value)
        system, looks = RING
        self.raises(BadLot, -1, order_helps, system, looks, [1] * 5, 0)
        self.raises(BadNumber, "part", order_helps, system, looks, [1] * 6, 6)
        self.raises(BadOrder, "ring", order_helps, system, looks, [1] * 6, 0)


class Mending(Case):

    def test_what_is_told(self):
        chance = seeded(502)
        seen = {}
        for _ in range(70):
            many = chance.randrange(2, 6)
            system = small_system(chance, many)
            foe, phrase = some_foe(chance, many, 5), small_phrase(chance, system, 7)
            aim = chance.choice(aims_of_phrase(phrase, many))
            if row_count(phrase) > 60:
                continue
            right = {"open": is_open(system, foe, phrase, aim), "taken": taken_way(system, foe, phrase, aim) is not None,
                     "signs": None if bare(phrase) else fewest_signs(system, phrase),
                     "trust": least_trust(system, phrase, aim[0])}
            found = mend_told(system, foe, phrase, list(aim))
            self.assertIs(type(found), dict)
            self.assertEqual(found, right)
            self.assertTrue(type(found["open"]) is bool and type(found["taken"]) is bool)
            seen[found["open"], found["taken"]] = True
            found.clear()
            self.assertEqual(mend_told(system, foe, phrase, aim), right)
        self.assertEqual(len(seen), 3)

    def test_errors_in_their_order(self):
        system, foe = System(1, [0] * 6, [[]] * 6, [0]), Foe(6, [1], [])
        for value in NO_PHRASES + [Look(0, 1), Sign()]:
            word = "judge" if isinstance(value, (Look, Sign)) else "phrase"
            self.raises(BadPhrase, word, mend_told, system, Foe(5, [], []), value, None)
        more = Ask(0, beside(in_turn(*[Look(0, 1)] * 3), *[Look(0, 2)] * 4))
        self.raises(BadFoe, "many", mend_told, system, Foe(5, [], []), more, None)
        for value in NO_LISTS + [[], (6, None), (1, 4), (True, None), (1, 0, 0)]:
            with self.assertRaises(BadAim):
                mend_told(system, foe, more, value)
        self.raises(TooMany, "rows", mend_told, system, foe, more, (1, None))
        # 420 rows of events, and 420 look rows.
        some = Ask(0, beside(in_turn(*[Look(0, 1)] * 3), in_turn(*[Look(0, 1)] * 2), Look(0, 1), Look(0, 1)))
        self.assertEqual(row_count(some), 420)
        self.raises(TooMany, "rows", mend_told, system, foe, some, (1, None))
        self.raises(TooMany, "parts", mend_told, system, foe, phrase_from("@0(0>1)"), (1, None))
        five = System(1, [0] * 5, [[]] * 5, [0])
        self.raises(TooMany, "rows", mend_told, five, Foe(5, [], []), some, (1, None))
        found = mend_told(five, Foe(5, [1], []), phrase_from("@0((0>1 +;+ !))"), [1, 0])
        self.assertEqual(found, {"open": False, "taken": False, "signs": None, "trust": (0,)})

    def test_four_hundred_rows_of_events(self):
        system = System(1, [0] * 5, [[]] * 5, [4])
        looks = [Look(k, (k + 1) % 5) for k in range(5)]
        half = [beside(beside(a, b), in_turn(c, d, e)) for a, b, c, d, e in (looks, looks[2:] + looks[:2])]
        whole = Ask(0, in_turn(*half))
        self.assertEqual(row_count(whole), 400)
        found = mend_told(system, Foe(5, [1], []), whole, (1, None))
        self.assertEqual([found["open"], found["taken"], found["signs"]], [False, False, ()])
        self.assertEqual(found["trust"], trust_sets(system, whole, 1)[0])


class MeetingAllRuns(Case):

    def test_two_parts(self):
        chance = seeded(503)
        forms = Forms(Foe.of_lot([2, 2]))
        for _ in range(60):
            system, phrase = one_place(chance, 2), some_looks(chance, 2, 3)
            for aim in aims_of_phrase(phrase, 2):
                hits = []
                for row in look_rows(phrase):
                    line = line_of(phrase, row)
                    unheard = unheard_forms(system, line, forms.of(len(line)))
                    hits += [parts_of_form(form) for form in unheard if reached(form, on_row(aim, row))]
                for held in all_subsets(range(2)):
                    right = all(set(held) & parts for parts in hits)
                    levels = [0 if part in held else 2 for part in range(2)]
                    self.assertIs(not lot_open(system, phrase, aim, levels), right)

    def test_plays_of_an_aim_at_a_look(self):
        chance = seeded(504)
        told = {}
        for _ in range(60):
            many, count = chance.choice([(2, 4), (3, 4), (4, 3), (3, 3), (5, 2)])
            system, phrase = one_place(chance, many), some_looks(chance, many, count)
            for aim in aims_of_phrase(phrase, many):
                if aim[1] is None:
                    continue
                plays = []
                for row in look_rows(phrase):
                    found = plays_of(system, Foe.of_lot([2] * many), line_of(phrase, row), aim[0], row.index(aim[1]))
                    plays += [{part for state in play for part in state} for play in found]
                for held in all_subsets(range(many)):
                    levels = [0 if part in held else 2 for part in range(many)]
                    shut = not lot_open(system, phrase, aim, levels)
                    told[shut] = told.get(shut, 0) + 1
                    self.assertIs(shut, all(set(held) & parts for parts in plays))
        self.assertGreater(min(told.values()), 100)

    def test_signs_help_where_only_the_reader_is_led(self):
        system = System(2, [0, 0, 1], [[]] * 3, [0, 2])
        foe, phrase = Foe(3, [1, 2], [((), 2)]), phrase_from("@1(@0(0>1))")
        found = mend_told(system, foe, phrase, (1, None))
        self.assertEqual(found, {"open": False, "taken": True, "signs": (3,), "trust": (0,)})
        signed = signed_at(system, phrase, found["signs"])
        self.assertEqual(mend_told(system, foe, signed, (1, None))["taken"], False)


if __name__ == "__main__":
    unittest.main()
