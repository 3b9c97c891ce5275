"""Points 122, 123, 125 and 126: records, buildable evidence, sendings, the full sending."""

import unittest
from itertools import product

from deeplooks.changing import first_kept, unread
from deeplooks.errors import BadEvidence, BadNumber, BadPhrase, BadRow, BadRun, BadSet
from deeplooks.events import events_of
from deeplooks.evidence import Broken, Empty, Nonce, Pair, Said, Signed
from deeplooks.evidencetexts import evidence_from, evidence_text
from deeplooks.judges import first_fault, takes
from deeplooks.phrases import Look, look_many
from deeplooks.phrasetexts import phrase_from
from deeplooks.runs import Run
from deeplooks.sending import buildable, is_sending, opened, recorded_by
from deeplooks.worth import clean_of
from tests.helpers import FOUR, NO_INTEGERS, NO_LISTS, ODD, Case, seeded
from tests.slowchanging import (Records, cleared, copies_kept, full_sending, is_bad_managed, is_out, with_words)
from tests.test_changing import PHRASE, ROW, drawn
from tests.test_evidence import NO_EVIDENCE, all_paths, some_evidence
from tests.test_phrases import NO_PHRASES

RUN = Run([[2], [1], [1], [], [], [0], [0]], [[], [1], [], [], [], [0]])


def builds(known, places, evidence):
    """True if the evidence can be built, by the words of point 123; known is a set of texts of pieces."""
    if isinstance(evidence, (Nonce, Empty)) or evidence_text(evidence) in known:
        return True
    if isinstance(evidence, Signed) and evidence.place not in places or isinstance(evidence, Broken):
        return False
    return all(builds(known, places, inner) for inner in evidence.insides())


def texts_of(known):
    """The texts of all pieces in the evidence that is known."""
    return {evidence_text(piece) for evidence in known for _, piece in all_paths(evidence)}


def is_sending_by_the_words(system, phrase, nonce, row, run, told, memory):
    """True if the records, all of the right kinds, are a sending of the run."""
    records = Records(system, phrase, nonce)
    known = [clean_of(system, phrase, nonce + 1 if nonce < 10 ** 9 else 0)] if memory else []
    for i, (event, what) in enumerate(zip(row, told)):
        kind, _, a, b = (records.events[event] + (None,))[:4]
        managed = is_bad_managed(system, phrase, row, run, i)
        if kind == "look":
            grounded = not set(system.needs[a]) & set(run.states[i])
            if not managed and grounded and what != (b not in run.states[i]):
                return False
        else:
            handed = records.handed_on(event)
            places = [q for q in range(system.places) if is_out(system, run, q, i)]
            if what != handed and not (managed and builds(texts_of(known + [handed]), places, what)):
                return False
            if managed:
                known = known + [handed, what]
        records.put(event, what)
    return True


class Full(Case):

    def check(self, system, phrase, row, run, memory, nonce):
        """The full sending, its last evidence, and what the judge says of it."""
        found = recorded_by(system, phrase, nonce, row, run, memory=memory)
        self.assertIs(type(found), tuple)
        records, last = found
        self.assertIs(type(records), tuple)
        right, right_last = full_sending(system, phrase, nonce, row, run, memory)
        self.assertEqual(records, tuple(right))
        self.assertEqual([type(what) is bool for what in records], [type(what) is bool for what in right])
        self.assertEqual(last, right_last)
        kept = copies_kept(system, phrase, row, run, memory)
        clean = clean_of(system, phrase, nonce)
        self.assertEqual(last, with_words(clean, kept, False))
        first = first_kept(system, phrase, row, run, memory=memory)
        self.assertEqual(first_fault(system, phrase, nonce, last), None if first is None else (first, "word"))
        self.assertIs(takes(system, phrase, nonce, last), unread(system, phrase, row, run, memory=memory))
        self.assertIs(is_sending(system, phrase, nonce, row, run, records, memory=memory), True)
        return records

    def test_drawn_runs(self):
        changed = 0
        for chance, system, phrase, row, run in drawn(180, 100):
            nonce = chance.choice([0, 5, 1000000000])
            for memory in (False, True):
                self.check(system, phrase, row, run, memory, nonce)
                changed += unread(system, phrase, row, run, memory=memory) != unread(system, phrase, row, Run.blank(len(row)))
        self.assertGreater(changed, 50)

    def test_a_record_that_is_changed(self):
        told = {}
        for chance, system, phrase, row, run in drawn(182, 60, 9):
            memory = chance.random() < 0.5
            nonce = chance.choice([0, 5, 1000000000])
            records = list(recorded_by(system, phrase, nonce, row, run, memory=memory)[0])
            for _ in range(8):
                i = chance.randrange(len(row))
                other = list(records)
                other[i] = self.changed(chance, system, phrase, nonce, records, i)
                right = is_sending_by_the_words(system, phrase, nonce, row, run, other, memory)
                told[right] = told.get(right, 0) + 1
                self.assertIs(is_sending(system, phrase, nonce, row, run, tuple(other), memory=memory), right)
        self.assertGreater(min(told.values()), 150)

    def changed(self, chance, system, phrase, nonce, records, i):
        """Another record: another word, or evidence of all kinds."""
        if isinstance(records[i], bool):
            return not records[i]
        whole = clean_of(system, phrase, chance.choice([nonce, (nonce + 1) % (10 ** 9 + 1)]))
        pieces = [piece for what in records + [whole] if not isinstance(what, bool) for _, piece in all_paths(what)]
        one, other = chance.choice(pieces), chance.choice(pieces)
        return chance.choice([one, other, Pair(one, other), Said(0, 0, 1, chance.random() < 0.5, one), Empty(),
                              Signed(0, chance.randrange(4), one), Nonce(3), Broken(0), some_evidence(chance, 2)])

    def test_records_of_each_kind(self):
        records, last = recorded_by(FOUR, PHRASE, 5, ROW, RUN)
        self.assertEqual([what if isinstance(what, bool) else evidence_text(what) for what in records],
                         ["#5", False, "0:0>1-(#5)", True, "!0@1(1:2>3+(0:0>1-(#5)))", "!0@1(1:2>3+(0:0>1+(#5)))"])
        self.assertEqual(evidence_text(last), "!0@1(1:2>3+(0:0>1+(#5)))")
        # A look at a bad-managed position says good, also if it is honestly bad.
        run = Run([[0, 1]] * 7, [[], [0, 1], [], [], [], []])
        self.assertIs(recorded_by(FOUR, PHRASE, 5, ROW, run)[0][1], True)
        # A look that is not grounded says good, an ask of the judge is what is handed on.
        phrase = phrase_from("(@0(0>1) -> @1(2>3))")
        system = type(FOUR)(4, FOUR.homes, [[1], [], [], [], [], [], [], []], FOUR.managers)
        records, last = recorded_by(system, phrase, 5, [0, 1, 2, 3, 4, 5], Run([[1]] * 7, [[1]] * 6))
        self.assertEqual((records[1], evidence_text(records[3])), (True, "0:0>1+(#5)"))

    def test_memory_of_signs_without_a_nonce(self):
        # Sign 0 holds no nonce, sign 1 does; the key of place 1 is never out.
        phrase = phrase_from("@0((@1((2>3 -> !)) -;+ !))")
        row = [0, 1, 2, 3, 4]
        run = Run([[3], [3], [3], [], [0], []], [[3], [3], [3], [], [0]])
        one, _ = recorded_by(FOUR, phrase, 5, row, run)
        two, last = recorded_by(FOUR, phrase, 5, row, run, memory=True)
        self.assertEqual(evidence_text(one[4]), "[!0@1(0:2>3-(_)),!1@0(#5)]")
        self.assertEqual(evidence_text(two[4]), "[!0@1(0:2>3+(_)),!1@0(#5)]")
        self.assertIs(takes(FOUR, phrase, 5, last), True)
        self.assertIs(is_sending(FOUR, phrase, 5, row, run, two), False)
        self.assertIs(is_sending(FOUR, phrase, 5, row, run, two, memory=1), True)

    def test_what_memory_knows(self):
        # Place 1 signs with a nonce in hand; the answer of place 0 may be what it was in the old session.
        phrase = phrase_from("@0(@1((2>3 -> !)))")
        row, run = [0, 1, 2, 3, 4], Run([[]] * 4 + [[0], [0]], [[]] * 4 + [[0]])
        for nonce, old in [(5, 6), (0, 1), (999999999, 1000000000), (1000000000, 0)]:
            records = list(recorded_by(FOUR, phrase, nonce, row, run)[0])
            for other in {0, 1, 4, 6, 7, 999999998, 1000000000} - {nonce}:
                records[4] = clean_of(FOUR, phrase, other)
                self.assertIs(is_sending(FOUR, phrase, nonce, row, run, records, memory=True), other == old)
                self.assertIs(is_sending(FOUR, phrase, nonce, row, run, records), False)

    def test_signs_that_do_not_come_into_the_evidence(self):
        # The signed piece of a lost look is not remembered, for no clean evidence holds it.
        phrase = phrase_from("@0(((@1((2>3 -> !)) -;- !) -> (@0(1>0) -;- !)))")
        row = [0, 1, 2, 3, 4, 5, 6, 7]
        run = Run([[3], [3], [3], [0], [0], [0], [0], [0], []], [[3], [3], [], [0], [0], [0], [0], [0]])
        for memory in (False, True):
            self.check(FOUR, phrase, row, run, memory, 5)


class Takings(Case):

    def test_some_sending_is_clean_exactly_if_the_run_is_unread(self):
        told = {}
        for _, system, phrase, row, run in drawn(184, 60, 7):
            for memory in (False, True):
                right = unread(system, phrase, row, run, memory=memory)
                told[right] = told.get(right, 0) + 1
                self.assertEqual(self.some_clean_sending(system, phrase, row, run, memory), right)
        self.assertGreater(min(told.values()), 30)

    def some_clean_sending(self, system, phrase, row, run, memory):
        """True if some of many sendings has the clean evidence: each choice of three at bad-managed positions."""
        events = events_of(system, phrase)
        managed = [i for i in range(len(row)) if is_bad_managed(system, phrase, row, run, i) and events[row[i]][0] != "look"]
        clean = Records(system, phrase, 5)
        right = []
        for event in row:
            what = True if events[event][0] == "look" else clean.handed_on(event)
            clean.put(event, what)
            right.append(what)
        for choice in product(range(3), repeat=min(len(managed), 4)):
            chosen = dict(zip(managed, choice))
            records, told = Records(system, phrase, 5), []
            for i, event in enumerate(row):
                what = self.choose(system, phrase, run, i, records, event, chosen.get(i, 0), right[i], memory, row)
                records.put(event, what)
                told.append(what)
            if records.last() == clean.last() and is_sending(system, phrase, 5, row, run, told, memory=memory):
                return True
        return False

    def choose(self, system, phrase, run, i, records, event, kind, right, memory, row):
        """What is recorded at a position: what can be cleared, what is handed on, or the clean record."""
        told = records.events[event]
        if told[0] == "look":
            managed = is_bad_managed(system, phrase, row, run, i)
            grounded = not set(system.needs[told[2]]) & set(run.states[i])
            return managed or not grounded or told[3] not in run.states[i]
        handed = records.handed_on(event)
        if not is_bad_managed(system, phrase, row, run, i) or kind == 1:
            return handed
        return cleared(system, phrase, run, i, handed, memory) if kind == 0 else right


class Buildable(Case):

    def test_opened(self):
        one, two = evidence_from("[!0@1(#5),[_,#5]]"), evidence_from("0:0>1+(#5)")
        found = opened([one, two, one])
        self.assertIs(type(found), list)
        texts = ["[!0@1(#5),[_,#5]]", "!0@1(#5)", "#5", "[_,#5]", "_", "0:0>1+(#5)"]
        self.assertEqual([evidence_text(piece) for piece in found], texts)
        self.assertEqual(opened(()), [])

    def test_opened_drawn(self):
        chance = seeded(186)
        for _ in range(100):
            known = [some_evidence(chance, 4) for _ in range(chance.randrange(4))]
            texts = [evidence_text(piece) for evidence in known for _, piece in all_paths(evidence)]
            found = [evidence_text(piece) for piece in opened(tuple(known))]
            self.assertEqual(found, sorted(set(texts), key=texts.index))

    def test_buildable(self):
        chance = seeded(187)
        told = {True: 0, False: 0}
        for _ in range(600):
            known = [some_evidence(chance, 3) for _ in range(chance.randrange(3))]
            pieces = opened(known) + [Empty(), Nonce(3)]
            evidence = some_evidence(chance, 3)
            for _ in range(chance.randrange(3)):
                piece = chance.choice(pieces)
                evidence = chance.choice([Pair(piece, evidence), Said(1, 2, 3, False, piece), piece,
                                          Signed(1, chance.randrange(4), piece), Pair(piece, piece)])
            places = chance.sample(range(4), chance.randrange(5))
            right = builds(texts_of(known), places, evidence)
            told[right] += 1
            self.assertIs(buildable(known, places, evidence), right)
        self.assertGreater(min(told.values()), 100)

    def test_each_kind(self):
        signed = evidence_from("!0@1(#5)")
        for text in ["#0", "#1000000000", "_", "[_,#1]", "99:7>0-([_,_])"]:
            self.assertIs(buildable([], [], evidence_from(text)), True)
        for text in ["x0", "!0@1(_)", "[_,x1]", "0:0>0+(!0@1(_))"]:
            self.assertIs(buildable([], [0, 2, 3], evidence_from(text)), False)
        self.assertIs(buildable([], (1,), signed), True)
        self.assertIs(buildable([signed], [], Pair(signed, signed)), True)
        self.assertIs(buildable([signed], [], evidence_from("!0@1(#6)")), False)
        self.assertIs(buildable([evidence_from("[x2,_]")], [], evidence_from("0:0>0+(x2)")), True)

    def test_errors_in_their_order(self):
        for value in NO_LISTS + [[None], [Empty(), "_"], [ODD], [[Empty()]]]:
            self.raises(BadEvidence, "known", opened, value)
            self.raises(BadEvidence, "known", buildable, value, None, None)
        for value in NO_LISTS + [[4], [-1], [0, 0], [True], [None]]:
            self.raises(BadSet, "places", buildable, [Empty()], value, None)
        for value in NO_EVIDENCE:
            self.raises(BadEvidence, "evidence", buildable, [Empty()], [], value)


class Errors(Case):

    def test_errors_in_their_order(self):
        for value in NO_PHRASES + [Look(0, 1)]:
            word = "judge" if isinstance(value, Look) else "phrase"
            self.raises(BadPhrase, word, recorded_by, FOUR, value, True, None, Run.blank(0))
            self.raises(BadPhrase, word, is_sending, FOUR, value, True, None, Run.blank(0), None)
        for value in NO_INTEGERS + [-1, 1000000001]:
            self.raises(BadNumber, "nonce", recorded_by, FOUR, PHRASE, value, None, Run.blank(0))
            self.raises(BadNumber, "nonce", is_sending, FOUR, PHRASE, value, None, Run.blank(0), None)
        for value in NO_LISTS + [[], ROW[::-1], ROW[:5]]:
            self.raises(BadRow, 0, recorded_by, FOUR, PHRASE, 5, value, Run.blank(0))
            self.raises(BadRow, 0, is_sending, FOUR, PHRASE, 5, value, Run.blank(0), None)
        for length in (0, 5, 7):
            self.raises(BadRun, -1, recorded_by, FOUR, PHRASE, 5, ROW, Run.blank(length))
            self.raises(BadRun, -1, is_sending, FOUR, PHRASE, 5, ROW, Run.blank(length), None)

    def test_records_of_any_kind(self):
        records = list(recorded_by(FOUR, PHRASE, 5, ROW, RUN)[0])
        self.assertIs(is_sending(FOUR, PHRASE, 5, ROW, RUN, records), True)
        for value in NO_LISTS + [[], records[:5], records + [Empty()]]:
            self.assertIs(is_sending(FOUR, PHRASE, 5, ROW, RUN, value), False)
        for i, event in enumerate(ROW):
            for value in [None, 0, 1, "+", "#5", ODD, [], (), 0.0]:
                self.assertIs(is_sending(FOUR, PHRASE, 5, ROW, RUN, records[:i] + [value] + records[i + 1:]), False)
            other = Empty() if isinstance(records[i], bool) else True
            self.assertIs(is_sending(FOUR, PHRASE, 5, ROW, RUN, records[:i] + [other] + records[i + 1:]), False)

    def test_changes_nothing(self):
        row = list(ROW)
        records = list(recorded_by(FOUR, PHRASE, 5, row, RUN)[0])
        held = list(records)
        is_sending(FOUR, PHRASE, 5, row, RUN, records)
        self.assertEqual((row, records), (ROW, held))
        self.assertEqual(look_many(PHRASE), 2)


if __name__ == "__main__":
    unittest.main()
