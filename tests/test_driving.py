"""Points 84 to 86: the fewest deeds that bring the answer, machines that are driven along a row."""

import unittest

from deeplooks.driving import deeds_left, done_with, drive
from deeplooks.errors import BadNumber, BadPhrase, BadRow, BadSet, BadStep
from deeplooks.events import order_of
from deeplooks.letters import Letter
from deeplooks.machines import Machine
from deeplooks.phrases import Look, ask_many, look_many
from deeplooks.phrasetexts import phrase_from
from deeplooks.rows import count_rows, rows_of
from deeplooks.worth import evidence_of
from tests.helpers import FOUR, NO_INTEGERS, NO_LISTS, ODD, Case, seeded
from tests.sessions import Session, small_phrases
from tests.slowmachine import Model
from tests.test_phrases import NO_PHRASES

PHRASE = phrase_from("@0((0>1 -> @1((2>3 -> !))))")


def deeds_of(machine):
    """All deeds that change what the machine has: each as done_with takes it."""
    deeds = [("do", event) for event in machine.ready()]
    deeds += [("send", letter) for letter in machine.letters() if letter not in machine.bag()]
    return deeds + [("bring", letter) for letter in machine.bag() if machine.waits_for(letter)]


def least_deeds(machine):
    """The least number of deeds that bring the answer, by going through all that can be done."""
    front = [machine]
    many = 0
    while not any(one.answer() is not None for one in front):
        after = {}
        for one in front:
            for deed in deeds_of(one):
                other = one.twin()
                done_with(other, deed)
                logs = tuple("".join(sorted(other.log_of(place).splitlines())) for place in range(-1, 4))
                after[(logs, len(other.bag()))] = other
        front = list(after.values())
        many += 1
    return many


class DeedsLeft(Case):

    def test_in_drawn_sessions(self):
        chance = seeded(90)
        for phrase in small_phrases(91, 25):
            session = Session(self, chance, phrase)
            while True:
                self.check(session)
                if session.ended():
                    break
                for _ in range(3):
                    session.step()
            self.assertEqual(deeds_left(session.machine), ())

    def check(self, session):
        """The deeds that are left are as many as point 85 tells, and bring the answer."""
        machine = session.machine
        deeds = deeds_left(machine)
        self.assertIs(type(deeds), tuple)
        self.assertEqual(len(deeds), session.model.fewest_left())
        session.check()
        other = machine.twin()
        for k, deed in enumerate(deeds):
            self.assertIs(type(deed), tuple)
            self.assertIsNone(other.answer())
            self.assertIsNone(done_with(other, list(deed) if k % 2 else deed))
        self.assertIsNotNone(other.answer())
        session.check()

    def test_at_first(self):
        for phrase in small_phrases(92, 40):
            deeds = deeds_left(Machine(FOUR, phrase, 7))
            self.assertEqual(len(deeds), look_many(phrase) + 6 * ask_many(phrase))

    def test_the_fewest_by_going_through_all(self):
        chance = seeded(93)
        for phrase in [phrase_from("@0((0>1 +~+ 1>0))"), phrase_from("(@0(!) +~- @1(2>0))"), phrase_from("@0(@1(!))")]:
            machine = Machine(FOUR, phrase, 5)
            self.assertEqual(least_deeds(machine), len(deeds_left(machine)))
            for _ in range(3):
                deed = chance.choice(deeds_of(machine))
                done_with(machine, deed)
                self.assertEqual(least_deeds(machine), len(deeds_left(machine)))

    def test_the_words_and_evidence_to_come(self):
        machine = Machine(FOUR, PHRASE, 5)
        deeds = deeds_left(machine)
        self.assertEqual(deeds[0], ("do", 0))
        self.assertEqual([deed[1] for deed in deeds if deed[0] == "do"], [0, 1, 2, 3, 4, 5])
        for deed in deeds:
            done_with(machine, deed)
        self.assertEqual(machine.answer(), evidence_of(FOUR, PHRASE, 5, [True, True]))


class DoneWith(Case):

    def test_words(self):
        machine = Machine(FOUR, PHRASE, 5)
        done_with(machine, ("do", 0), word=False)
        for letter in machine.letters():
            done_with(machine, ["send", letter])
            done_with(machine, ["bring", letter])
        done_with(machine, ["do", 1], word=0)
        self.assertEqual(machine.words(), {0: False})

    def test_errors(self):
        machine = Machine(FOUR, PHRASE, 5)
        for value in NO_LISTS + [[], ["do"], ("do", 0, 0), ("Do", 0), (0, "do"), (None, 0), (ODD, 0), ([], 0), ("fall", 0)]:
            self.raises(BadStep, "deed", done_with, machine, value)
        for event in NO_INTEGERS + [1, -1]:
            self.raises(BadStep, "event", done_with, machine, ("do", event))
        letter = Letter(5, 0, False, evidence_of(FOUR, PHRASE, 5, [True, True]))
        for value in (letter, None, ODD, 0):
            self.raises(BadStep, "letter", done_with, machine, ("send", value))
            self.raises(BadStep, "letter", done_with, machine, ("bring", value))
        self.assertEqual(machine.missing, 10)


class Driven(Case):

    def test_each_row(self):
        chance = seeded(94)
        for phrase in small_phrases(95, 60):
            order = order_of(FOUR, phrase)
            if count_rows(order) > 40:
                continue
            for row in rows_of(order):
                words = [chance.choice([True, False, 1, 0, "x", None]) for _ in range(look_many(phrase))]
                machine = drive(FOUR, phrase, 5, list(row), tuple(words))
                self.check(machine, phrase, row, words)

    def check(self, machine, phrase, row, words):
        """The machine has all that drive tells."""
        self.assertEqual(machine.recorded(), row)
        self.assertEqual(machine.words(), {number: bool(word) for number, word in enumerate(words)})
        self.assertEqual(machine.answer(), evidence_of(FOUR, phrase, 5, words))
        self.assertEqual(machine.missing, 0)
        self.assertEqual(len(machine.bag()), 2 * ask_many(phrase))
        for letter in machine.letters():
            self.assertIn(letter, machine.bag())
        model = Model(FOUR, phrase, 5)
        looks = [e for e, event in enumerate(model.shape.events) if event[0] == "look"]
        for event in row:
            while event not in model.ready():
                model.bring([letter for letter in model.letters() if model.waits_for(letter)][0])
            model.do(event, ("+" if words[looks.index(event)] else "-") if event in looks else None)
        while not model.is_ended():
            model.bring([letter for letter in model.letters() if model.waits_for(letter)][0])
        for place in range(-1, 4):
            self.assertEqual(sorted(machine.log_of(place).split("\n")), sorted(model.text(place).split("\n")))

    def test_letters_twice_and_falls_behind_each_record(self):
        for phrase in small_phrases(96, 25, 6):
            order = order_of(FOUR, phrase)
            for row in list(rows_of(order))[:6]:
                machine = Machine(FOUR, phrase, 5)
                for event in row:
                    machine.do(event)
                    for letter in machine.letters() * 2:
                        machine.fall(-1)
                        machine.send(letter)
                        for _ in range(2):
                            machine.bring(letter)
                            for place in range(-1, 4):
                                machine.fall(place)
                self.assertEqual(machine.recorded(), row)
                self.assertEqual(machine.answer(), evidence_of(FOUR, phrase, 5, [True] * look_many(phrase)))

    def test_errors_in_their_order(self):
        row = (0, 1, 2, 3, 4, 5)
        for value in NO_PHRASES + [Look(0, 1)]:
            self.raises(BadPhrase, "judge" if isinstance(value, Look) else "phrase", drive, FOUR, value, True, None, None)
        for value in NO_INTEGERS + [-1, 1000000001]:
            self.raises(BadNumber, "nonce", drive, FOUR, PHRASE, value, None, None)
        for value in NO_LISTS + [row[:5], row[::-1], row + (6,), (0, 1, 2, 3, 5, 4), (False, True, 2, 3, 4, 5)]:
            self.raises(BadRow, 0, drive, FOUR, PHRASE, 5, value, None)
        for value in NO_LISTS + [[], [True], [True] * 3]:
            self.raises(BadSet, "words", drive, FOUR, PHRASE, 5, row, value)

    def test_changes_nothing(self):
        row, words = [0, 1, 2, 3, 4, 5], [True, False]
        machine = drive(FOUR, PHRASE, 5, row, words)
        self.assertEqual((row, words), ([0, 1, 2, 3, 4, 5], [True, False]))
        row.clear()
        words.clear()
        self.assertEqual(machine.recorded(), (0, 1, 2, 3, 4, 5))


if __name__ == "__main__":
    unittest.main()
