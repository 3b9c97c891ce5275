"""Points 106 and 107: look rows, aims of a phrase, open and shut, peels of all look rows."""

import unittest

from deeplooks.covers import Hearing, reaches, unheard
from deeplooks.errors import BadFoe, BadPhrase, BadRow, TooMany
from deeplooks.events import look_events, look_order, order_of
from deeplooks.foes import Foe
from deeplooks.openness import event_line, is_open, is_peels, look_line, open_way, peels_of
from deeplooks.lots import greatest_shut, least_open, local_parts, lot_open, trust_sets
from deeplooks.phrases import Ask, Look, beside, in_turn
from deeplooks.phrasetexts import phrase_from
from deeplooks.prices import Prices, cheapest, fewest_deeds, heights_of, is_heights
from deeplooks.readers import reader_peels, taken_way
from deeplooks.rows import count_rows, rows_of
from deeplooks.runs import is_run
from deeplooks.sieves import is_peel, peel, sieve
from deeplooks.systems import System
from deeplooks.tables import is_table, table_of
from tests.helpers import FOUR, NO_LISTS, ODD, Case, seeded, some_foe
from tests.slowopen import aims_of_phrase, line_of, look_rows, on_row, small_phrases, some_looks
from tests.slowsieve import Forms, one_place, reached, small_foes, small_systems, unheard_forms
from tests.test_covers import BareAim
from tests.test_phrases import NO_PHRASES
from tests.fitting import fitting_phrases

SIX = Ask(0, beside(*[Look(k, (k + 1) % 6) for k in range(6)]))
SEVEN = Ask(0, beside(*[Look(k % 6, (k + 1) % 6) for k in range(7)]))
LINE = System(1, [0] * 6, [[]] * 6, [0])


class Rows(Case):

    def test_look_lines(self):
        phrase = phrase_from("@0((0>1 -> (1>2 +~+ @0(2>0))))")
        system = System(1, [0, 0, 0], [[]] * 3, [0])
        self.assertEqual(look_line(system, phrase, [0, 2, 1]), ((0, 1), (2, 0), (1, 2)))
        for value in NO_LISTS + [(1, 0, 2), (0, 1), (0, 1, 2, 3), (0, 1, 1), (False, True, 2), (0, 1, None)]:
            self.raises(BadRow, 0, look_line, system, phrase, value)
        self.assertEqual(look_line(system, phrase_from("@0(!)"), ()), ())

    def test_event_lines(self):
        phrase = phrase_from("@0((0>1 -> (1>2 +~+ @0(2>0))))")
        system = System(1, [0, 0, 0], [[]] * 3, [0])
        self.assertEqual(event_line(system, phrase, (0, 1, 3, 4, 2, 5, 6)), (None, (0, 1), None, (2, 0), (1, 2), None, None))
        for value in NO_LISTS + [(0, 1, 2, 3, 4, 6, 5), (0, 2, 1), (), (0, 1, 2, 3, 4, 5, True)]:
            self.raises(BadRow, 0, event_line, system, phrase, value)

    def test_all_rows(self):
        for phrase in fitting_phrases(130, 40, 8):
            rows = list(rows_of(look_order(FOUR, phrase)))
            self.assertEqual(rows, look_rows(phrase))
            for row in rows[:20]:
                self.assertEqual(look_line(FOUR, phrase, list(row)), line_of(phrase, row))
            for row in list(rows_of(order_of(FOUR, phrase)))[:20]:
                line = event_line(FOUR, phrase, row)
                looks = tuple(look for look in line if look is not None)
                self.assertIn(looks, [line_of(phrase, one) for one in rows])

    def test_errors(self):
        for value in NO_PHRASES + [Look(0, 1)]:
            word = "judge" if isinstance(value, Look) else "phrase"
            self.raises(BadPhrase, word, look_line, FOUR, value, None)
            self.raises(BadPhrase, word, event_line, FOUR, value, None)


class Open(BareAim):

    def check(self, system, foe, phrase, listed=None):
        """is_open, open_way, peels_of and is_peels tell what the sieve tells on each look row."""
        rows = look_rows(phrase)
        for aim in aims_of_phrase(phrase, system.many):
            first, peels = None, []
            for row in rows:
                line = line_of(phrase, row)
                run = sieve(foe, line, Hearing(system, line))
                if first is None and reaches(line, run, on_row(aim, row)):
                    first = (row, run)
                peels.append((row, peel(foe, line, Hearing(system, line), on_row(aim, row))))
            if listed is not None:
                some = any(reached(form, on_row(aim, row)) for row in rows
                           for form in unheard_forms(system, line_of(phrase, row), listed.of(len(row))))
                self.assertEqual(some, first is not None)
            self.check_aim(system, foe, phrase, aim, first, tuple(peels))

    def check_aim(self, system, foe, phrase, aim, first, peels):
        """What the four functions tell of one aim."""
        self.assertIs(is_open(system, foe, phrase, list(aim)), first is not None)
        found = open_way(system, foe, phrase, aim)
        self.assertEqual(found, first)
        told = peels_of(system, foe, phrase, aim)
        if first is None:
            self.assertEqual(told, peels)
            self.assertIs(is_peels(system, foe, phrase, aim, told), True)
            again = [[list(row), list(positions)] for row, positions in reversed(told)]
            self.assertIs(is_peels(system, foe, phrase, aim, again), True)
        else:
            self.assertIsNone(told)
            row, run = found
            self.assertTrue(is_run(foe, run) and unheard(system, line_of(phrase, row), run))
            self.assertTrue(reaches(line_of(phrase, row), run, on_row(aim, row)))

    def test_small_ones_whole(self):
        chance = seeded(131)
        phrases = list(small_phrases(2))
        for foe in small_foes():
            listed = Forms(foe)
            for system in small_systems():
                for phrase in chance.sample(phrases, 2):
                    self.check(system, foe, phrase, listed)

    def test_larger_ones(self):
        chance = seeded(132)
        for _ in range(120):
            many = chance.randrange(2, 6)
            self.check(one_place(chance, many), some_foe(chance, many, 7), some_looks(chance, many, 4))

    def test_rows_of_all_events_give_the_same(self):
        chance = seeded(133)
        for _ in range(60):
            system, foe, phrase = one_place(chance, 3), some_foe(chance, 3), some_looks(chance, 3, 3)
            order = order_of(system, phrase)
            events = look_events(system, phrase)
            for aim in aims_of_phrase(phrase, 3):
                some = False
                for row in list(rows_of(order)):
                    line = event_line(system, phrase, row)
                    wanted = (aim[0], None if aim[1] is None else row.index(events[aim[1]]))
                    some = some or reaches(line, sieve(foe, line, Hearing(system, line)), wanted)
                self.assertIs(is_open(system, foe, phrase, aim), some)

    def test_peels_of_any_kind(self):
        chance = seeded(134)
        refused = 0
        for _ in range(80):
            system, foe, phrase = one_place(chance, 3), some_foe(chance, 3), some_looks(chance, 3, 3)
            rows = look_rows(phrase)
            for aim in aims_of_phrase(phrase, 3):
                told = peels_of(system, foe, phrase, aim)
                if told is None:
                    continue
                for other in self.bent(chance, told):
                    right = [tuple(entry[0]) for entry in other] and sorted(tuple(e[0]) for e in other) == rows
                    for row, positions in other:
                        line = line_of(phrase, row) if tuple(row) in rows else None
                        right = right and line is not None and is_peel(
                            foe, line, Hearing(system, line), on_row(aim, tuple(row)), positions)
                    refused += not right
                    self.assertIs(is_peels(system, foe, phrase, aim, other), bool(right))
        self.assertGreater(refused, 100)
        phrase, foe = phrase_from("@0(0>1)"), Foe(2, [], [])
        small = System(1, [0, 0], [[], []], [0])
        self.assertIs(is_peels(small, foe, phrase, (1, 0), [((0,), ())]), True)
        wrong = [[], [None], [((0,),)], [((0,), (), ())], [((0,), ()), ((0,), ())], [((0,), None)], [(None, ())],
                 [((1,), ())], [((0,), (1,))], [((False,), ())], [ODD], [(0, ())], {(0,): ()}, [((0,), (0, 0))]]
        for value in NO_LISTS + wrong:
            self.assertIs(is_peels(small, foe, phrase, (1, 0), value), False)

    def bent(self, chance, told):
        """The peels with one row or one peel changed, left out or put in."""
        k = chance.randrange(len(told))
        row, positions = told[k]
        yield told[:k] + told[k + 1:]
        yield told + (told[k],)
        yield told[:k] + ((row, positions[1:]),) + told[k + 1:]
        yield told[:k] + ((row, positions + (0,)),) + told[k + 1:]
        yield told[:k] + ((row, positions[::-1]),) + told[k + 1:]
        yield told[:k] + ((row[::-1], positions),) + told[k + 1:]
        if len(told) > 1:
            yield told[:k] + ((told[k - 1][0], positions),) + told[k + 1:]

    def test_many_rows(self):
        shut = Foe(6, [1], [])
        self.assertIs(is_open(LINE, shut, SIX, (2, None)), False)
        told = peels_of(LINE, shut, SIX, (1, None))
        self.assertEqual(len(told), 720)
        self.assertIs(is_peels(LINE, shut, SIX, (1, None), told), True)
        self.assertIsNone(open_way(LINE, shut, SIX, (1, 0)))
        calls = [(is_open, ()), (open_way, ()), (peels_of, ()), (is_peels, (None,))]
        for call, more in calls:
            self.raises(TooMany, "rows", call, LINE, shut, SEVEN, (1, None), *more)
        # 840 rows: seven looks, of which some are in order.
        other = Ask(0, beside(in_turn(Look(0, 1), Look(1, 2), Look(2, 3)), *[Look(k, 0) for k in range(4)]))
        self.raises(TooMany, "rows", is_open, LINE, shut, other, (1, None))

    def test_eight_hundred_rows_are_gone_through(self):
        # 40 rows ahead of 20: two looks together and one ahead of two, beside; two together beside three in turn.
        looks = [Look(k % 5, (k + 1) % 5) for k in range(10)]
        left = beside(beside(*looks[:2]), in_turn(looks[2], beside(*looks[3:5])))
        right = beside(beside(*looks[5:7]), in_turn(*looks[7:]))
        phrase = Ask(0, in_turn(left, right))
        system, foe = System(1, [0] * 5, [[]] * 5, [0]), Foe(5, [1], [([1], 1)])
        self.assertEqual(count_rows(look_order(system, phrase)), 800)
        self.assertIs(is_open(system, foe, phrase, (2, None)), False)
        self.assertIsNone(open_way(system, foe, phrase, (2, None)))
        told = peels_of(system, foe, phrase, (2, None))
        self.assertEqual(told, tuple((row, ()) for row in look_rows(phrase)))
        self.assertIs(is_peels(system, foe, phrase, (2, None), told), True)
        self.assertIs(lot_open(system, phrase, (2, None), [0, 1, 0, 0, 0]), False)
        self.assertTrue(least_open(system, phrase, (2, None)))
        self.assertTrue(greatest_shut(system, phrase, (2, None)))
        self.assertTrue(trust_sets(system, phrase, 2))

    def test_errors_in_their_order(self):
        foe, small = Foe(6, [1], []), Foe(5, [], [])
        prices = Prices([], [], [])
        calls = [(is_open, ()), (open_way, ()), (peels_of, ()), (is_peels, (None,)), (table_of, ()), (is_table, (None,)),
                 (cheapest, (prices,)), (heights_of, (prices,)), (is_heights, (prices, -1, None)), (fewest_deeds, ()),
                 (taken_way, ()), (reader_peels, ())]
        for call, more in calls:
            for value in NO_PHRASES + [Look(0, 1)]:
                word = "judge" if isinstance(value, Look) else "phrase"
                self.raises(BadPhrase, word, call, LINE, small, value, None, *more)
            self.raises(BadFoe, "many", call, LINE, small, SEVEN, None, *more)
            for value in self.wrong_aims():
                self.no_aim(call, LINE, foe, SEVEN, value, *more)
        for value in self.wrong_aims():
            for call, more in [(lot_open, (None,)), (least_open, ()), (greatest_shut, ())]:
                self.no_aim(call, LINE, SEVEN, value, *more)
        for call in (lot_open, least_open, greatest_shut):
            self.raises(BadPhrase, "phrase", call, LINE, None, None, *([None] if call is lot_open else []))
        self.raises(BadPhrase, "phrase", trust_sets, LINE, None, None)
        self.raises(BadPhrase, "phrase", local_parts, LINE, small, None, None)

    def wrong_aims(self):
        """What is no aim of SEVEN, in which look k looks at k + 1."""
        wrong = [(0, 0), (1, 1), (1, 7), (1, -1), (6, None), (-1, None), (True, None), (1, False), (1,), (1, 0, 0), (),
                 (None, None), ("1", None), (1, "0"), (ODD, 0), (1.0, None)]
        return NO_LISTS + wrong

    def test_changes_nothing(self):
        phrase, foe, small = phrase_from("@0(0>1)"), Foe(2, [], []), System(1, [0, 0], [[], []], [0])
        aim, told = [1, 0], [[[0], []]]
        self.assertIs(is_peels(small, foe, phrase, aim, told), True)
        self.assertEqual((aim, told), ([1, 0], [[[0], []]]))


if __name__ == "__main__":
    unittest.main()
