"""Points 125 to 128 and 130: the cover for the reader, greatest unread runs, peels for the reader, machines."""

import unittest
import unittest.mock

from deeplooks.changing import unread
from deeplooks.covers import Hearing, reaches
from deeplooks.errors import BadFoe, BadNumber, BadPhrase, BadRow, BadRun, TooMany
from deeplooks.events import events_of, look_events, order_of
from deeplooks.evidencetexts import evidence_text
from deeplooks.foes import Foe
from deeplooks.growth import grow
from deeplooks.judges import takes
from deeplooks.letters import letter_text
from deeplooks.machines import Machine
from deeplooks.openness import event_line, is_open
from deeplooks.phrases import Ask, Look, Sign, Then, ask_many, beside, in_turn
from deeplooks.phrasetexts import phrase_from
from deeplooks.readers import Reading, play_out, reader_peels, reads, taken_way
from deeplooks.rows import count_rows, row_count, rows_of
from deeplooks.runs import Run, is_run, misfit
from deeplooks.sending import recorded_by
from deeplooks.sieves import goings, is_peel, peel, sieve
from deeplooks.systems import System
from deeplooks.ways import all_ways
from deeplooks.worth import clean_of, copies_of, lost_looks
from tests.helpers import FOUR, NO_INTEGERS, NO_LISTS, Case, seeded, some_foe
from tests.slowchanging import FREE, copies_kept, heard, phrases_to_change, some_form, some_four, some_row, steps_changed
from tests.slowopen import aims_of_phrase
from tests.slowruns import all_forms
from tests.slowsieve import run_of, union
from tests.test_changing import PHRASE, ROW, drawn
from tests.test_phrases import NO_PHRASES


def fours_and_foes(seed, count, events=8):
    """Systems with the homes of FOUR, foes of any kind over them, and phrases."""
    chance = seeded(seed)
    for phrase in phrases_to_change(seed + 1, count, events):
        yield chance, some_four(chance), some_foe(chance, 8, 7), phrase


class Readings(Case):

    def test_attributes(self):
        row = list(ROW)
        reading = Reading(FOUR, PHRASE, row, memory="yes")
        self.assertIs(reading.system, FOUR)
        self.assertIs(reading.phrase, PHRASE)
        self.assertEqual(reading.row, tuple(ROW))
        self.assertIs(reading.memory, True)
        self.assertIs(Reading(FOUR, PHRASE, row).memory, False)
        row.clear()
        self.assertEqual(reading.row, tuple(ROW))

    def test_drawn_runs(self):
        told = {}
        for chance, system, phrase, row, run in drawn(190, 80):
            memory = chance.random() < 0.5
            reading = Reading(system, phrase, row, memory=memory)
            line, looks, copies = event_line(system, phrase, row), look_events(system, phrase), copies_of(phrase)
            bad = heard(system, phrase, row, run)
            for i, event in enumerate(row):
                right = True
                if line[i] is not None and not set(system.needs[line[i][0]]) & set(run.states[i]):
                    paths = copies[looks.index(event)]
                    right = all(steps_changed(system, phrase, row, run, path, memory) for path in paths)
                    told[right] = told.get(right, 0) + 1
                self.assertIs(reading(run, i), right)
            caught = [i for i in bad.values() if not reading(run, i)]
            self.assertEqual(not caught, unread(system, phrase, row, run, memory=memory))
            if not bad:
                self.assertIs(unread(system, phrase, row, run), True)
        self.assertGreater(min(told.values()), 100)

    def test_larger_runs_cover_as_much(self):
        chance = seeded(192)
        for phrase in phrases_to_change(193, 60):
            system = some_four(chance)
            row = some_row(chance, system, phrase)
            run = some_form(chance, range(8), len(row))
            larger = run | some_form(chance, range(8), len(row))
            for memory in (False, True):
                reading = Reading(system, phrase, row, memory=memory)
                for i in range(len(row)):
                    self.assertLessEqual(reading(run, i), reading(larger, i))

    def test_a_lost_look_is_always_covered(self):
        phrase = phrase_from("@0((0>1 -> (1>0 -;- !)))")
        reading = Reading(FOUR, phrase, [0, 1, 2, 3])
        run = Run([[1]] * 5, [[1]] * 4)
        self.assertEqual([reading(run, i) for i in range(4)], [True, True, True, True])
        run = Run([[0]] * 5, [[], [], [], []])
        self.assertIs(reading(run, 2), False)

    def test_errors(self):
        for value in NO_PHRASES + [Look(0, 1)]:
            self.raises(BadPhrase, "judge" if isinstance(value, Look) else "phrase", Reading, FOUR, value, None)
        for value in NO_LISTS + [[], ROW[::-1], ROW[:5]]:
            self.raises(BadRow, 0, Reading, FOUR, PHRASE, value)


class Reads(Case):

    def check_listed(self, system, foe, phrase):
        """The greatest unread run is the union of all unread runs, on each row."""
        order = order_of(system, phrase)
        forms = sorted(all_forms(foe, order.size), key=str)
        for row in list(rows_of(order))[:2]:
            for memory in (False, True):
                kept = [form for form in forms
                        if not copies_kept(system, phrase, list(row), Run(*[[sorted(held) for held in sets] for sets in form]),
                                           memory)]
                run = reads(system, foe, phrase, row, memory=memory)
                self.assertEqual(run, run_of(union(kept, order.size)))

    def test_small_foes_by_listing_their_runs(self):
        chance = seeded(194)
        texts = ["@0(0>1)", "@0((0>1 -> !))", "@0((! -> 1>0))", "@0((0>1 -;- !))", "@0((0>1 -> (! -;- !)))"]
        for text in texts:
            for _ in range(8):
                needs = [chance.choice([[], [1]]), chance.choice([[], [0]])]
                system = System(1, [0, 0], needs, [chance.randrange(2)])
                foe = some_foe(chance, 2, 3)
                self.check_listed(system, foe, phrase_from(text))

    def test_two_places_by_listing_their_runs(self):
        chance = seeded(195)
        texts = ["@0((0>1 -> @1(!)))", "@1(@0((0>1 -> !)))", "@0((@1((1>0 -> !)) -;+ !))", "(@0((0>1 -> !)) -> @1(!))"]
        for text in texts:
            for _ in range(4):
                system = System(2, [0, 1], [chance.choice([[], [1]]), []], [0, 1])
                rules = chance.choice([[], [([0], 1)], [([1], 0)]])
                foe = Foe(2, chance.choice([[0], [1], [0, 1]]), rules, stuck=chance.choice([[], [0], [1], [0, 1]]))
                self.check_listed(system, foe, phrase_from(text))

    def test_larger_ones(self):
        for chance, system, foe, phrase in fours_and_foes(196, 60):
            row = some_row(chance, system, phrase)
            line = event_line(system, phrase, row)
            memory = chance.random() < 0.5
            reading = Reading(system, phrase, row, memory=memory)
            run = reads(system, foe, phrase, row, memory=memory)
            self.assertEqual(run, sieve(foe, line, reading))
            self.assertTrue(is_run(foe, run))
            self.assertIs(unread(system, phrase, row, run, memory=memory), True)
            # Each unheard run is unread.
            self.assertTrue(sieve(foe, line, Hearing(system, line)).under(run))
            self.assertTrue(reads(system, foe, phrase, row).under(reads(system, foe, phrase, row, memory=True)))
            lost, looks = lost_looks(phrase), look_events(system, phrase)
            plain = [e for k, e in enumerate(looks) if k not in lost and not system.void(*events_of(system, phrase)[e][2:])]
            self.assertLessEqual(len(goings(foe, line, reading)), len(plain) + 1)
            if not set(system.managers) & set(grow(foe, foe.early)):
                bare = [None if e in looks and looks.index(e) in lost else look for e, look in zip(row, line)]
                self.assertEqual(reads(system, foe, phrase, row), sieve(foe, bare, Hearing(system, bare)))

    def test_without_bad_managers(self):
        chance = seeded(198)
        for phrase in phrases_to_change(199, 50):
            system = some_four(chance)
            others = [part for part in range(8) if part not in system.managers]
            foe = Foe(8, [p for p in others if chance.random() < 0.7], [((), chance.choice(others))])
            row = some_row(chance, system, phrase)
            looks, lost = look_events(system, phrase), lost_looks(phrase)
            line = [None if e in looks and looks.index(e) in lost else look
                    for e, look in zip(row, event_line(system, phrase, row))]
            for memory in (False, True):
                self.assertEqual(reads(system, foe, phrase, row, memory=memory), sieve(foe, line, Hearing(system, line)))

    def test_a_free_target_and_a_free_manager(self):
        # Some run is unread and not unheard: the manager is bad just where the words leave its place.
        chance = seeded(200)
        tried = 0
        for phrase in phrases_to_change(201, 60):
            system = some_four(chance)
            row = some_row(chance, system, phrase)
            line, ways, looks = event_line(system, phrase, row), all_ways(system, phrase), look_events(system, phrase)
            for i, look in enumerate(line):
                if look is None or system.void(*look):
                    continue
                tried += 1
                target, manager = look[1], system.managers[system.homes[look[0]]]
                foe = Foe(8, sorted({target, manager}), [((), target), ((), manager)])
                leaves = [row.index(way[1][0]) for way in ways[looks.index(row[i])]]
                states = [[target] if k == i else [manager] if k in leaves else [] for k in range(len(row))]
                before = [[]] + states
                run = Run([sorted(set(before[k]) | set(before[k + 1])) for k in range(len(row))] + [states[-1]], states)
                self.assertTrue(is_run(foe, run))
                self.assertEqual(list(heard(system, phrase, row, run).values()), [i])
                self.assertIs(unread(system, phrase, row, run), True)
                self.assertTrue(run.under(reads(system, foe, phrase, row)))
        self.assertGreater(tried, 40)

    def test_errors_in_their_order(self):
        foe = Foe(8, [], [])
        for value in NO_PHRASES + [Look(0, 1)]:
            word = "judge" if isinstance(value, Look) else "phrase"
            self.raises(BadPhrase, word, reads, FOUR, Foe(7, [], []), value, None)
        self.raises(BadFoe, "many", reads, FOUR, Foe(7, [], []), PHRASE, None)
        for value in NO_LISTS + [[], ROW[::-1], ROW[:5]]:
            self.raises(BadRow, 0, reads, FOUR, foe, PHRASE, value)
        row = list(ROW)
        reads(FOUR, foe, PHRASE, row)
        self.assertEqual(row, ROW)


class Taken(Case):

    def test_rows_one_by_one(self):
        told = {True: 0, False: 0}
        for chance, system, foe, phrase in fours_and_foes(202, 45):
            order, looks = order_of(system, phrase), look_events(system, phrase)
            rows = list(rows_of(order)) if count_rows(order) <= 60 else []
            for aim in aims_of_phrase(phrase, 8) if rows else []:
                memory = chance.random() < 0.4
                first, peels = None, []
                for row in rows:
                    line = event_line(system, phrase, row)
                    reading = Reading(system, phrase, row, memory=memory)
                    wanted = (aim[0], None if aim[1] is None else row.index(looks[aim[1]]))
                    run = reads(system, foe, phrase, row, memory=memory)
                    if first is None and reaches(line, run, wanted):
                        first = (row, run)
                    peels.append((row, peel(foe, line, reading, wanted)))
                self.assertEqual(taken_way(system, foe, phrase, list(aim), memory=memory), first)
                found = reader_peels(system, foe, phrase, aim, memory=memory)
                self.assertEqual(found, None if first else tuple(peels))
                told[first is not None] += 1
                if is_open(system, foe, phrase, aim):
                    self.assertIsNotNone(first)
                for row, positions in found or ():
                    line = event_line(system, phrase, row)
                    wanted = (aim[0], None if aim[1] is None else row.index(looks[aim[1]]))
                    reading = Reading(system, phrase, row, memory=memory)
                    self.assertIs(is_peel(foe, line, reading, wanted, positions), True)
        self.assertGreater(min(told.values()), 60)

    def test_many_rows(self):
        system = System(1, [0] * 6, [[]] * 6, [5])
        looks = [Look(k, (k + 1) % 6) for k in range(6)]
        phrase = Ask(0, beside(in_turn(looks[0], looks[1]), *looks[2:]))
        foe = Foe(6, [1], [])
        self.assertIsNone(taken_way(system, foe, phrase, (2, None)))
        found = reader_peels(system, foe, phrase, (1, None))
        self.assertEqual(len(found), 360)
        self.assertEqual([type(found), type(found[0]), type(found[0][1])], [tuple] * 3)
        # 400 rows: 20 ahead of 20.
        half = [beside(beside(a, b), in_turn(c, d, e)) for a, b, c, d, e in (looks[:5], looks[5:] + looks[:4])]
        whole = Ask(0, in_turn(*half))
        self.assertEqual(row_count(whole), 400)
        self.assertIsNone(taken_way(system, foe, whole, (2, None)))
        self.assertEqual(len(reader_peels(system, foe, whole, (2, None))), 400)
        # 420 rows: three looks in turn, beside two in turn, beside two.
        more = Ask(0, beside(in_turn(*looks[:3]), in_turn(*looks[3:5]), looks[5], looks[0]))
        self.raises(TooMany, "rows", taken_way, system, foe, more, (2, None))
        self.raises(TooMany, "rows", reader_peels, system, foe, more, (2, None))


class Counted(Machine):
    """A machine that counts what is sent and brought, and the records behind which their place did not fall."""

    def __init__(self, system, phrase, nonce):
        Machine.__init__(self, system, phrase, nonce)
        self.sent, self.brought, self.unfallen, self.waiting = [], [], [], []

    def send(self, letter):
        """Counts a letter that is sent."""
        self.sent.append(letter_text(letter))
        Machine.send(self, letter)

    def bring(self, letter, *, cut=None):
        """Counts a letter that is brought, and its record."""
        self.brought.append(letter_text(letter))
        return self.noted(lambda: Machine.bring(self, letter, cut=cut))

    def do(self, event, *, word=True, sent=None, cut=None):
        """Counts the record of an event."""
        return self.noted(lambda: Machine.do(self, event, word=word, sent=sent, cut=cut))

    def noted(self, call):
        """Makes the call; the place whose log grew has to fall before the next record of any place."""
        before = [self.log_of(place) for place in range(-1, 4)]
        told = call()
        grown = [place for place in range(-1, 4) if self.log_of(place) != before[place + 1]]
        if grown:
            self.unfallen += self.waiting
            self.waiting = [place for place in grown if place != -1]
        return told

    def fall(self, place):
        """Notes that the place fell."""
        Machine.fall(self, place)
        self.waiting = [other for other in self.waiting if other != place]


class PlayOut(Case):

    def check(self, chance, system, foe, phrase, row, run):
        """The machine has recorded the row with the records of the full sending, and has its answer."""
        nonce = chance.choice([0, 5, 1000000000])
        records, last = recorded_by(system, phrase, nonce, row, run)
        asks = {}
        around = []
        for number, event in enumerate(events_of(system, phrase)):
            if event[0] == "ask":
                around.append(number)
            if event[0] == "answer":
                asks[number] = around.pop()
        lines = []
        for event, what in zip(row, records):
            kind = events_of(system, phrase)[event][0]
            if kind == "look":
                lines.append(f"said {event} {'+' if what else '-'}")
            else:
                ask = event if kind == "ask" else asks[event]
                for word in ("asked", "begun") if kind == "ask" else ("done", "got"):
                    lines.append(f"{word} {ask} {evidence_text(what)}")
        for twice in (False, True, 1):
            machine = play_out(system, foe, phrase, nonce, row, run, twice=twice)
            self.assertEqual(machine.recorded(), tuple(row))
            self.assertEqual(machine.answer(), last)
            self.assertEqual(takes(system, phrase, nonce, machine.answer()), unread(system, phrase, row, run))
            told = [line for place in range(-1, system.places) for line in machine.log_of(place).splitlines()]
            self.assertEqual(sorted(told), sorted(lines))
            self.assertEqual((machine.missing, len(machine.bag())), (0, 2 * ask_many(phrase)))

    def test_drawn_runs(self):
        for chance, system, phrase, row, run in drawn(204, 40):
            self.assertTrue(is_run(FREE, run))
            self.check(chance, system, FREE, phrase, row, run)

    def test_twice(self):
        # What was done on the machine cannot be seen in it, so it is counted while it is done.
        for _, system, phrase, row, run in drawn(208, 10, 8):
            for twice in (False, True):
                with unittest.mock.patch("deeplooks.readers.Machine", Counted):
                    machine = play_out(system, FREE, phrase, 5, row, run, twice=twice)
                many = 2 if twice else 1
                self.assertEqual(sorted(set(machine.sent)), sorted(letter_text(letter) for letter in machine.letters()))
                for told in (machine.sent, machine.brought):
                    self.assertTrue(all(told.count(text) == many for text in told))
                self.assertEqual(machine.unfallen == [], twice)

    def test_taken_ways(self):
        taken = 0
        for chance, system, foe, phrase in fours_and_foes(206, 25, 7):
            for aim in aims_of_phrase(phrase, 8)[::3]:
                found = taken_way(system, foe, phrase, aim)
                if found is not None:
                    taken += 1
                    machine = play_out(system, foe, phrase, 5, found[0], found[1])
                    self.assertEqual(machine.answer(), clean_of(system, phrase, 5))
        self.assertGreater(taken, 20)

    def test_errors_in_their_order(self):
        foe, run = Foe(8, [0], []), Run.blank(6)
        for value in NO_PHRASES + [Look(0, 1)]:
            word = "judge" if isinstance(value, Look) else "phrase"
            self.raises(BadPhrase, word, play_out, FOUR, Foe(7, [], []), value, True, None, Run.blank(0))
        self.raises(BadFoe, "many", play_out, FOUR, Foe(7, [], []), PHRASE, True, None, Run.blank(0))
        for value in NO_INTEGERS + [-1, 1000000001]:
            self.raises(BadNumber, "nonce", play_out, FOUR, foe, PHRASE, value, None, Run.blank(0))
        for value in NO_LISTS + [[], ROW[::-1], ROW[:5]]:
            self.raises(BadRow, 0, play_out, FOUR, foe, PHRASE, 5, value, Run.blank(0))
        for length in (0, 5, 7):
            self.raises(BadRun, -1, play_out, FOUR, foe, PHRASE, 5, ROW, Run([[3]] * (length + 1), [[3]] * length))
        wrong = Run([[0]] * 5 + [[1]] + [[]], [[0]] * 4 + [[], []])
        self.assertEqual(misfit(foe, wrong)[0], 5)
        self.raises(BadRun, 5, play_out, FOUR, foe, PHRASE, 5, ROW, wrong)
        self.assertEqual(play_out(FOUR, foe, PHRASE, 5, ROW, run).answer(), clean_of(FOUR, PHRASE, 5))

    def test_the_main_fact_on_one_phrase(self):
        # The manager of place 0 is free: the word is changed at the answer, though the place signs it.
        system = System(1, [0, 0, 0], [[], [], []], [2])
        phrase = Ask(0, Then(Look(0, 1), Sign()))
        foe = Foe(3, [1, 2], [])
        row, run = taken_way(system, foe, phrase, (1, None))
        self.assertIs(is_open(system, foe, phrase, (1, None)), False)
        machine = play_out(system, foe, phrase, 7, row, run, twice=True)
        self.assertEqual(machine.answer(), clean_of(system, phrase, 7))
        self.assertIsNone(taken_way(system, Foe(3, [1], []), phrase, (1, None)))
        self.assertEqual(reader_peels(system, Foe(3, [1], []), phrase, (1, None)), (((0, 1, 2), (1,)),))


if __name__ == "__main__":
    unittest.main()
