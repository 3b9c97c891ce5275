"""Points 190 to 194: start looks, joined lines, places that count, sealed evidence, chains."""

import unittest
from itertools import permutations

from deeplooks.changing import unread
from deeplooks.checks import event_many
from deeplooks.covers import reaches
from deeplooks.errors import BadAim, BadFoe, BadNumber, BadPhrase, BadRow, BadRun, BadSet, BadTour, TooMany
from deeplooks.events import look_events, order_of
from deeplooks.evidence import Broken
from deeplooks.evidencetexts import evidence_text
from deeplooks.feeding import is_best_order
from deeplooks.foes import Foe
from deeplooks.growth import grow
from deeplooks.leavings import full_signing
from deeplooks.orders import Order
from deeplooks.phrases import Ask, Look, Sign, beside, in_turn
from deeplooks.phrasetexts import phrase_from
from deeplooks.readers import reads, taken_way
from deeplooks.registers import clean_register, register_of
from deeplooks.rows import rows_of
from deeplooks.runs import Run, is_run
from deeplooks.starts import (Sealing, Starts, chain, counts, joined_line, register_at, sealed_evidence, sealed_reads,
                              sealed_taken)
from deeplooks.strength import clean_end
from deeplooks.systems import System
from deeplooks.worth import clean_of, lost_looks
from tests.asked import wrong_pairs
from tests.helpers import FOUR, NO_INTEGERS, NO_LISTS, ODD, Case, seeded, some_foe
from tests.slowchanging import phrases_to_change, some_form, some_four, some_row
from tests.slowopen import aims_of_phrase, all_lots
from tests.slowruns import all_forms
from tests.slowsieve import run_of, union
from tests.slowstarts import Joined, drawn_run, small_phrase, small_system, some_starts, start_looks
from tests.test_leavings import nested, signable
from tests.test_phrases import NO_PHRASES

SYSTEM = System(2, [0, 0, 1], [[], [], []], [1, 2])
PHRASE = phrase_from("@1(@0((0>1 -> !)))")
ROW = (0, 1, 2, 3, 4)


def joined_cases(seed, count, events=7):
    """Starts of systems with the homes of FOUR, phrases, rows, and the joined line."""
    chance = seeded(seed)
    drawn = list(phrases_to_change(seed + 1, count // 2, events))
    for phrase in drawn + [full_signing(FOUR, phrase) for phrase in signable(seed + 1, count, events)]:
        starts = some_starts(chance, some_four(chance))
        row = some_row(chance, starts.system, phrase)
        if len(start_looks(starts)) + len(row) <= 16:
            yield chance, starts, phrase, row, Joined(starts, phrase, row)


def some_pair(chance, parts):
    """A list of one look among these parts, or of none."""
    return [(chance.choice(parts), chance.choice(parts))] if chance.random() < 0.5 else []


class Making(Case):

    def test_attributes(self):
        rows = [[[0, 1], (1, 1)], ((2, 2),)]
        starts = Starts(SYSTEM, rows, [1, 0])
        self.assertIs(starts.system, SYSTEM)
        self.assertEqual((starts.rows, starts.sealed), ((((0, 1), (1, 1)), ((2, 2),)), (0, 1)))
        rows[0].clear()
        self.assertEqual(starts.looks(), ((0, 1), (1, 1), (2, 2)))
        self.assertEqual([starts.first_of(0), starts.first_of(1)], [0, 2])
        four = Starts(FOUR, [[(2 * q, 2 * q + 1)] * q for q in range(4)], ())
        self.assertEqual([four.first_of(q) for q in range(4)], [0, 0, 1, 3])
        for value in NO_INTEGERS + [-1, 2]:
            self.raises(BadNumber, "place", starts.first_of, value)
        self.assertEqual(Starts(SYSTEM, [[], ()], ()).looks(), ())

    def test_errors_in_their_order(self):
        for value in NO_LISTS + [[], [[]], [[], [], []]]:
            self.raises(BadTour, "rows", Starts, SYSTEM, value, None)
        for pair in wrong_pairs(3) + [(0, 2), (2, 0)]:
            self.raises(BadTour, "rows", Starts, SYSTEM, [[(0, 1), pair], []], None)
        for row in NO_LISTS + [[(0, 1)] * 5]:
            self.raises(BadTour, "rows", Starts, SYSTEM, [row, []], None)
        self.raises(BadTour, "rows", Starts, SYSTEM, [[], [(0, 1)]], None)
        for value in NO_LISTS + [[2], [-1], [0, 0], [True], [None]]:
            self.raises(BadSet, "sealed", Starts, SYSTEM, [[(0, 1)] * 4, [(2, 2)]], value)


class Lines(Case):

    def test_joined_lines_and_places_that_count(self):
        for _, starts, phrase, row, joined in joined_cases(460, 100):
            self.assertEqual(joined_line(starts, phrase, row), tuple(joined.line))
            self.assertEqual(Sealing(starts, phrase, row).line, tuple(joined.line))
            self.is_tuple_set(counts(starts, phrase))
            self.assertEqual(counts(starts, phrase), tuple(joined.counts))

    def test_a_sign_that_comes_to_nothing_counts_for_nothing(self):
        starts = Starts(SYSTEM, [[], []], [0, 1])
        self.assertEqual(counts(starts, phrase_from("@0((! -> (0>1 -;- !)))")), (0,))
        self.assertEqual(counts(starts, phrase_from("(@0(!) -> @1((2>1 -;- 2>0)))")), ())
        self.assertEqual(counts(Starts(SYSTEM, [[], []], [1]), phrase_from("@0(!)")), ())

    def test_sixteen_positions_and_seventeen(self):
        looks = [(0, 0)] * 4
        system = System(4, [0, 1, 2, 3], [[]] * 4, [0, 1, 2, 3])
        starts = Starts(system, [looks, [(1, 1)] * 4, [(2, 2)] * 4, [(3, 3)] * 2], [0])
        short, long = phrase_from("@0(!)"), phrase_from("@0(0>1)")
        self.assertEqual(len(joined_line(starts, short, (0, 1))), 16)
        self.assertEqual(len(sealed_reads(Foe(4, [0], []), starts, short, (0, 1))), 16)
        self.assertEqual(sealed_taken(Foe(4, [1], []), starts, short, (1, None))[0], (0, 1))
        run = Run.blank(17)
        for call, given in ((joined_line, (starts, long, (0, 1, 2))), (Sealing, (starts, long, (0, 1, 2))),
                            (sealed_reads, (Foe(4, [], []), starts, long, (0, 1, 2))),
                            (sealed_taken, (Foe(4, [], []), starts, long, (0, None))),
                            (sealed_evidence, (starts, long, 1, (0, 1, 2), run))):
            self.raises(BadTour, "rows", call, *given)
        self.assertEqual(counts(starts, long), ())
        full = Starts(system, [looks, [(1, 1)] * 4, [(2, 2)] * 4, [(3, 3)] * 4], [])
        self.raises(BadTour, "rows", joined_line, full, short, (0, 1))
        self.assertEqual(register_at(full, 3, run), clean_register([(3, 3)] * 4))


class Taken(Case):

    def test_covers(self):
        told = {}
        for chance, starts, phrase, row, joined in joined_cases(462, 90):
            sealing = Sealing(starts, phrase, row)
            for _ in range(4):
                run = some_form(chance, range(8), len(joined.line), chance.choice([0.1, 0.3]))
                larger = run | some_form(chance, range(8), len(joined.line), 0.2)
                for i in range(len(joined.line)):
                    right = joined.covered(run, i)
                    told[right, i < joined.first] = told.get((right, i < joined.first), 0) + 1
                    self.assertIs(sealing(run, i), right)
                    self.assertLessEqual(right, sealing(larger, i))
        self.assertGreater(min(told.values()), 100)

    def test_the_greatest_taken_run_by_listing_all_runs(self):
        chance = seeded(464)
        tried = 0
        for _ in range(45):
            system = small_system(chance, 2)
            starts, phrase = some_starts(chance, system, 1), small_phrase(chance, system, 4)
            foe = some_foe(chance, 2, 4)
            row = some_row(chance, system, phrase)
            joined = Joined(starts, phrase, row)
            if len(joined.line) > 5:
                continue
            tried += 1
            forms = sorted(all_forms(foe, len(joined.line)), key=str)
            taken = [form for form in forms if joined.taken(run_of(form))]
            self.assertEqual(sealed_reads(foe, starts, phrase, row), run_of(union(taken, len(joined.line))))
            nonce = chance.randrange(100)
            clean = clean_of(system, phrase, nonce)
            for form in chance.sample(forms, min(len(forms), 40)):
                run = run_of(form)
                evidence = sealed_evidence(starts, phrase, nonce, row, run)
                self.assertEqual(evidence == clean, joined.taken(run))
        self.assertGreater(tried, 20)

    def test_larger_ones(self):
        differ = 0
        for chance, starts, phrase, row, joined in joined_cases(465, 70):
            foe = some_foe(chance, 8, 7)
            found = sealed_reads(foe, starts, phrase, row)
            self.assertIs(is_run(foe, found), True)
            self.assertTrue(joined.taken(found))
            for _ in range(12):
                run = drawn_run(chance, foe, len(joined.line))
                if joined.taken(run):
                    self.assertTrue(run.under(found))
            # Sealing one more key makes no further run taken.
            fewer = Starts(starts.system, starts.rows, [place for place in starts.sealed if chance.random() < 0.5])
            other = sealed_reads(foe, fewer, phrase, row)
            self.assertTrue(found.under(other))
            differ += found != other
            for place in starts.sealed:
                if place not in joined.counts:
                    rest = [p for p in starts.sealed if p != place]
                    self.assertEqual(found, sealed_reads(foe, Starts(starts.system, starts.rows, rest), phrase, row))
        self.assertGreater(differ, 3)

    def test_no_start_looks(self):
        for chance, starts, phrase, row, joined in joined_cases(467, 60):
            empty = Starts(starts.system, [[]] * 4, starts.sealed)
            foe = some_foe(chance, 8, 7)
            self.assertEqual(sealed_reads(foe, empty, phrase, row), reads(starts.system, foe, phrase, row))
            run = drawn_run(chance, foe, len(row))
            clean = clean_of(starts.system, phrase, 3) == sealed_evidence(empty, phrase, 3, row, run)
            self.assertIs(clean, unread(starts.system, phrase, row, run))

    def test_rows_one_by_one(self):
        told = {}
        chance = seeded(468)
        for _ in range(60):
            system = small_system(chance, 4)
            starts, phrase, foe = some_starts(chance, system), small_phrase(chance, system, 7), some_foe(chance, 4, 5)
            rows = list(rows_of(order_of(system, phrase)))
            if len(start_looks(starts)) + event_many(phrase) > 16 or len(rows) > 30:
                continue
            looks, first = look_events(system, phrase), len(start_looks(starts))
            for aim in aims_of_phrase(phrase, 4):
                right = None
                for row in rows:
                    run = sealed_reads(foe, starts, phrase, row)
                    wanted = (aim[0], None if aim[1] is None else first + row.index(looks[aim[1]]))
                    if right is None and reaches(joined_line(starts, phrase, row), run, wanted):
                        right = (row, run)
                found = sealed_taken(foe, starts, phrase, list(aim))
                self.assertEqual(found, right)
                told[right is None] = told.get(right is None, 0) + 1
                if found is not None and first == 0:
                    self.assertEqual(found, taken_way(system, foe, phrase, aim))
        self.assertGreater(min(told.values()), 30)

    def test_four_hundred_rows_and_more(self):
        system = System(1, [0] * 6, [[]] * 6, [5])
        looks = [Look(k, (k + 1) % 6) for k in range(6)]
        half = [beside(beside(a, b), in_turn(c, d, e)) for a, b, c, d, e in (looks[:5], looks[5:] + looks[:4])]
        whole = Ask(0, in_turn(*half))
        starts = Starts(system, [[(0, 1), (1, 2)]], [0])
        self.assertIsNone(sealed_taken(Foe(6, [1], []), starts, whole, (2, None)))
        more = Ask(0, beside(in_turn(*looks[:3]), in_turn(*looks[3:5]), looks[5], looks[0]))
        self.raises(TooMany, "rows", sealed_taken, Foe(6, [1], []), starts, more, (2, None))
        two = System(2, [0] * 6 + [1], [[]] * 7, [5, 6])
        full = Starts(two, [[(0, 1)] * 4, [(6, 6)] * 4], [0])
        self.assertEqual(event_many(more), 9)
        self.raises(BadTour, "rows", sealed_taken, Foe(7, [1], []), full, more, (2, None))
        long = Starts(system, [[(0, 1)] * 4], [0])
        self.assertEqual(event_many(whole), 12)
        self.assertIsNone(sealed_taken(Foe(6, [1], []), long, whole, (2, None)))

    def test_keys_that_come_out_ahead_of_the_starts(self):
        # The manager looks good from the start look on, but was bad ahead of it.
        starts = Starts(SYSTEM, [[(0, 1)], []], [0])
        free = Starts(SYSTEM, [[(0, 1)], []], [])
        # Place 1 must have the key of place 0 at its answer: the gap that counts first is that behind the starts.
        phrase, row = phrase_from("@1(@0((0>2 -> !)))"), [0, 1, 2, 3, 4]
        bad = [[], [], [], [2], [], [2]]
        early = Run([[1], [], [], [2], [2], [2], [2]], bad)
        late = Run([[], [1], [], [2], [2], [2], [2]], bad)
        for told, one, other in ((starts, False, True), (free, True, True)):
            self.assertIs(Sealing(told, phrase, row)(early, 3), one)
            self.assertIs(Sealing(told, phrase, row)(late, 3), other)


class Evidences(Case):

    def test_by_the_words(self):
        broken = 0
        for chance, starts, phrase, row, joined in joined_cases(470, 90):
            for _ in range(4):
                run = some_form(chance, range(8), len(joined.line), chance.choice([0.1, 0.3]))
                nonce = chance.choice([0, 5, 1000000000])
                found = sealed_evidence(starts, phrase, nonce, tuple(row), run)
                self.assertEqual(found, joined.evidence(run, nonce))
                self.assertEqual(found == clean_of(starts.system, phrase, nonce), joined.taken(run))
                broken += "x" in evidence_text(found)
        self.assertGreater(broken, 20)

    def test_registers(self):
        for chance, starts, phrase, row, joined in joined_cases(472, 60):
            run = some_form(chance, range(8), chance.randrange(joined.first, 17), 0.3)
            looks = start_looks(starts)
            for place in range(4):
                mine = [i for i, (at, _) in enumerate(looks) if at == place]
                right = register_of([looks[i][1] for i in mine], [not joined.heard(run, i) for i in mine])
                self.assertEqual(register_at(starts, place, run), right)
            for length in range(joined.first):
                self.raises(BadRun, -1, register_at, starts, 0, Run.blank(length))

    def test_what_is_inside_is_gone(self):
        starts = Starts(SYSTEM, [[(0, 1)], []], [0])
        run = Run([[1]] * 5, [[1], [], [], []])
        phrase = phrase_from("@0((! -> (! -;- !)))")
        found = sealed_evidence(starts, phrase, 7, [0, 1], Run([[1], [1], [], []], [[1], [], []]))
        self.assertEqual(evidence_text(found), "[x0,x0]")
        self.assertEqual(sealed_evidence(Starts(SYSTEM, [[(0, 1)], []], []), phrase, 7, [0, 1], Run.blank(3)),
                         clean_of(SYSTEM, phrase, 7))
        phrase = phrase_from("@1((@0((0>0 -> !)) -> !))")
        found = sealed_evidence(starts, phrase, 7, [0, 1, 2, 3, 4], Run([[1], [1], [], [], [], [], []], [[1]] + [[]] * 5))
        self.assertEqual(evidence_text(found), "!1@1(x0)")
        self.assertEqual(found.inner, Broken(0))
        self.assertEqual(len(run), 4)

    def test_managers_that_are_looked_at_behind_the_start(self):
        tried, all_places = 0, 0
        chance = seeded(474)
        for _ in range(150):
            system, managers = System(2, [0, 0, 1, 1, 0], [[], [], [], [], [3]], [0, 2]), (0, 2)
            text = chance.choice(["@0((4>1 -> (! -> @1((3>0 -> !)))))", "@1((@0((1>2 -> !)) -> !))", "(@0((1>3 -> !)) -> @1(3>4))",
                                  "@0(((1>0 -> (4>0 -;- !)) -> @1(!)))"])
            phrase = phrase_from(text)
            starts = Starts(system, [[(1, 0)] + some_pair(chance, [0, 1, 4]), some_pair(chance, [2, 3]) + [(3, 2)]],
                            chance.choice([[0, 1], [0, 1], [0], [1]]))
            rules = [(q, p) for q, p in some_foe(chance, 5, 5).rules if p not in managers or p in q]
            foe = Foe(5, [p for p in range(5) if chance.random() < 0.5], rules, stuck=some_foe(chance, 5).stuck)
            grown = grow(foe, foe.early)
            kept = [q for q in counts(starts, phrase) if any(
                b == managers[q] and not set(system.needs[a]) & set(grown) for a, b in starts.rows[q])]
            row = some_row(chance, system, phrase)
            joined = Joined(starts, phrase, row)
            runs = [drawn_run(chance, foe, len(joined.line)) for _ in range(10)] + [sealed_reads(foe, starts, phrase, row)]
            for run in runs:
                if joined.taken(run) and kept:
                    tried += 1
                    for q in kept:
                        for i in range(joined.first, len(joined.line)):
                            self.assertNotIn(managers[q], run.states[i])
                            self.assertFalse(joined.is_out(run, q, i))
                if len(kept) == system.places:
                    all_places += 1
                    lost, looks = lost_looks(phrase), look_events(system, phrase)
                    heard = [i for i in range(len(joined.line)) if joined.heard(run, i)]
                    told = [i for i in heard if i < joined.first or looks.index(row[i - joined.first]) not in lost]
                    self.assertIs(joined.taken(run), not told)
        self.assertGreater(min(tried, all_places), 50)


class Chains(Case):

    def test_looks(self):
        system = System(1, [0] * 5, [[]] * 5, [0])
        self.assertEqual(chain(system, [3, 0, 4]), ((3, 0), (0, 4)))
        self.assertEqual(chain(system, (1, 0)), ((1, 0),))
        for value in NO_LISTS + [[], [0], [0, 0], [0, 5], [-1, 0], [True, 0], [0, None], [0, 1, 0], [ODD]]:
            self.raises(BadSet, "parts", chain, system, value)
        parts = [2, 1]
        chain(system, parts)
        self.assertEqual(parts, [2, 1])

    def test_what_a_chain_makes_clean(self):
        chance = seeded(475)
        for _ in range(25):
            many = chance.randrange(2, 6)
            parts = chance.sample(range(many), chance.randrange(2, many + 1))
            needs = [[p for p in range(many) if chance.random() < 0.3] for _ in range(many)]
            for k, part in enumerate(parts[:-1]):
                needs[part] = parts[:k + 1]
            system = System(1, [0] * many, needs, [0])
            row = chain(system, parts)
            for levels in all_lots(many):
                if not any(levels[part] == 2 for part in parts):
                    self.assertIs(set(parts) <= set(clean_end(system, row, levels)), levels[parts[0]] == 0)
            for order in permutations(range(len(row))):
                best = is_best_order(system, row, Order.of_row(list(order)))
                self.assertIs(best, list(order) == list(range(len(row))))


class Errors(Case):

    def test_errors_in_their_order(self):
        starts, foe, few = Starts(SYSTEM, [[(0, 1)], []], [0]), Foe(3, [], []), Foe(2, [], [])
        long = Starts(System(1, [0], [[]], [0]), [[(0, 0)] * 4], [0])
        run = Run.blank(6)
        for value in NO_PHRASES + [Look(0, 1), Sign()]:
            word = "judge" if isinstance(value, (Look, Sign)) else "phrase"
            self.raises(BadPhrase, word, joined_line, starts, value, None)
            self.raises(BadPhrase, word, counts, starts, value)
            self.raises(BadPhrase, word, Sealing, starts, value, None)
            self.raises(BadPhrase, word, sealed_reads, few, starts, value, None)
            self.raises(BadPhrase, word, sealed_taken, few, starts, value, None)
            self.raises(BadPhrase, word, sealed_evidence, starts, value, None, None, run)
        self.raises(BadFoe, "many", sealed_reads, few, starts, PHRASE, None)
        self.raises(BadFoe, "many", sealed_taken, few, starts, PHRASE, None)
        for value in NO_INTEGERS + [-1, 1000000001]:
            self.raises(BadNumber, "nonce", sealed_evidence, starts, PHRASE, value, None, Run.blank(1))
        for value in NO_LISTS + [[], ROW[::-1], ROW[:4], [0, 1, 2, 4, 3]]:
            self.raises(BadRow, 0, joined_line, starts, PHRASE, value)
            self.raises(BadRow, 0, Sealing, starts, PHRASE, value)
            self.raises(BadRow, 0, sealed_reads, foe, starts, PHRASE, value)
            self.raises(BadRow, 0, sealed_evidence, starts, PHRASE, 1, value, Run.blank(1))
        for value in NO_LISTS + [[], (3, None), (1, 1), (0, 0), (-1, None), (True, None), (1, True), (1, 0, 0)]:
            with self.assertRaises(BadAim):
                sealed_taken(foe, starts, PHRASE, value)
        deep = nested(6, Sign())
        self.assertEqual(event_many(deep), 12)
        five = Starts(System(2, [0, 1], [[]] * 2, [0, 1]), [[(0, 0)] * 4, [(1, 1)]], [])
        with self.assertRaises(BadAim):
            sealed_taken(Foe(2, [], []), five, deep, None)
        self.raises(BadRow, 0, joined_line, five, deep, [1])
        self.raises(BadTour, "rows", joined_line, five, deep, list(range(12)))
        self.raises(BadTour, "rows", sealed_evidence, five, deep, 1, list(range(12)), Run.blank(1))
        self.assertEqual(len(joined_line(long, deep, list(range(12)))), 16)
        sealing = Sealing(starts, PHRASE, ROW)
        for length in (0, 5, 7):
            self.raises(BadRun, -1, sealing, Run.blank(length), None)
            self.raises(BadRun, -1, sealed_evidence, starts, PHRASE, 1, ROW, Run.blank(length))
        for value in NO_INTEGERS + [-1, 6]:
            self.raises(BadRow, value, sealing, run, value)
        for value in NO_INTEGERS + [-1, 2]:
            self.raises(BadNumber, "place", register_at, starts, value, Run.blank(0))
        self.raises(BadRun, -1, register_at, starts, 0, Run.blank(0))
        row = list(ROW)
        sealed_evidence(starts, PHRASE, 1, row, run)
        sealed_reads(foe, starts, PHRASE, row)
        sealing = Sealing(starts, PHRASE, row)
        self.assertEqual(row, list(ROW))
        row.reverse()
        found = Run([[1]] * 7, [[1]] * 6)
        self.assertEqual([sealing(found, i) for i in range(6)], [Sealing(starts, PHRASE, ROW)(found, i) for i in range(6)])


if __name__ == "__main__":
    unittest.main()
