"""Points 81 to 86: machines, led by drawn deeds beside a model of their own."""

import unittest

from deeplooks.errors import BadNumber, BadPhrase, BadStep
from deeplooks.evidence import Empty, Nonce
from deeplooks.evidencetexts import evidence_text
from deeplooks.letters import Letter
from deeplooks.machines import Machine
from deeplooks.phrases import Ask, Branch, Look, Sign, Then, ask_many, look_many
from deeplooks.phrasetexts import phrase_from
from deeplooks.rows import rows_of
from deeplooks.systems import System
from deeplooks.worth import evidence_of
from tests.helpers import FOUR, NO_INTEGERS, NO_LISTS, ODD, Case, seeded
from tests.sessions import OLD, Session, as_letter, small_phrases
from tests.test_phrases import NO_PHRASES

PHRASE = phrase_from("@0((0>1 -> @1((2>3 -> !))))")


def lead_to_the_end(case, session, most=600):
    """Drawn deeds until there is an answer, everything checked behind each."""
    while not session.ended() and session.steps < most:
        session.step()
        session.check()
    case.assertTrue(session.ended())


class Drawn(Case):

    def test_drawn_deeds(self):
        chance = seeded(70)
        look, sign = Look(0, 1), Ask(1, Sign())
        # One object stands at several places; asks of signs alone; asks within asks.
        shared = Ask(0, Branch(Then(look, sign), Then(sign, look), keep_left=False, together=True))
        deep = Ask(0, Ask(0, Ask(3, Look(6, 0))))
        for phrase in small_phrases(71, 45) + [PHRASE, shared, deep, Ask(2, Ask(2, Sign())), Ask(0, Then(look, look))]:
            session = Session(self, chance, phrase)
            session.check()
            lead_to_the_end(self, session)
            order = session.model.shape.order
            done = session.machine.recorded()
            self.assertEqual(sorted(done), list(range(order.size)))
            for _ in range(10):
                session.step()
                session.check()

    def test_recorded_events_begin_a_row(self):
        chance = seeded(72)
        for phrase in small_phrases(73, 25):
            session = Session(self, chance, phrase)
            order = session.model.shape.order
            rows = {tuple(row[:k]) for row in rows_of(order) for k in range(order.size + 1)}
            while not session.ended():
                session.step()
                self.assertIn(session.machine.recorded(), rows)

    def test_honest_answers(self):
        chance = seeded(74)
        for phrase in small_phrases(75, 40):
            answers = set()
            for _ in range(2):
                session = Session(self, chance, phrase, forging=False, nonce=chance.choice([0, 5, 1000000000]))
                while not session.ended():
                    session.step()
                words = [session.words[number] for number in range(look_many(phrase))]
                right = evidence_of(FOUR, phrase, session.nonce, words)
                self.assertEqual(session.machine.answer(), right)
                answers.add(evidence_text(right))

    def test_twins(self):
        chance = seeded(76)
        for phrase in small_phrases(77, 20):
            session = Session(self, chance, phrase)
            for _ in range(chance.randrange(30)):
                session.step()
            other = Session(self, chance, phrase)
            other.machine, other.model = session.machine.twin(), session.model.copy()
            other.words = dict(session.words)
            other.check()
            for _ in range(15):
                chance.choice([session, other]).step()
                session.check()
                other.check()
            lead_to_the_end(self, other)
            session.check()


class Made(Case):

    def test_at_first(self):
        for phrase in small_phrases(78, 20):
            machine = Machine(FOUR, phrase, 0)
            self.assertEqual(machine.missing, look_many(phrase) + 4 * ask_many(phrase))
            self.assertEqual((machine.bag(), machine.letters(), machine.recorded()), ((), (), ()))
            self.assertEqual(machine.words(), {})
            self.assertIsNone(machine.answer())
            self.assertEqual([machine.log_of(place) for place in range(-1, 4)], [""] * 5)

    def test_errors_of_making(self):
        for value in NO_PHRASES + [Look(0, 1)]:
            self.raises(BadPhrase, "judge" if isinstance(value, Look) else "phrase", Machine, FOUR, value, True, old=None)
        for value in NO_INTEGERS + [-1, 1000000001]:
            self.raises(BadNumber, "nonce", Machine, FOUR, PHRASE, value, old=None)
        session = Letter(5, 0, False, Empty())
        for value in NO_LISTS + [[None], [session], [OLD[0], session], ["6 0 to #6"], [OLD], [ODD]]:
            self.raises(BadStep, "old", Machine, FOUR, PHRASE, 5, old=value)
        self.assertEqual(Machine(FOUR, PHRASE, 5, old=OLD).bag(), (OLD[0], OLD[1]))
        self.assertEqual(Machine(FOUR, PHRASE, 5, old=()).bag(), ())

    def test_errors_of_places(self):
        machine = Machine(FOUR, PHRASE, 5)
        for value in NO_INTEGERS + [-2, 4]:
            self.raises(BadNumber, "place", machine.fall, value)
            self.raises(BadNumber, "place", machine.log_of, value)
        small = Machine(System(1, [0, 0], [[], []], [0]), phrase_from("@0(0>1)"), 5)
        self.raises(BadNumber, "place", small.fall, 1)
        self.raises(BadNumber, "place", small.log_of, 1)
        self.assertIsNone(small.fall(0))
        self.assertIsNone(small.fall(-1))

    def test_one_session_step_by_step(self):
        machine = Machine(FOUR, PHRASE, 5)
        self.assertEqual(machine.ready(), (0,))
        self.raises(BadStep, "event", machine.do, 1)
        self.assertIs(machine.do(0), True)
        self.assertEqual(machine.log_of(-1), "asked 0 #5\n")
        self.assertEqual(machine.ready(), ())
        letter = Letter(5, 0, False, Nonce(5))
        self.assertEqual(machine.letters(), (letter,))
        self.raises(BadStep, "letter", machine.bring, letter)
        machine.send(letter)
        machine.send(letter)
        self.assertEqual(machine.bag(), (letter,))
        self.assertIs(machine.bring(letter, cut=0), False)
        self.assertIs(machine.bring(letter, cut=len("begun 0 #5")), False)
        self.raises(BadStep, "cut", machine.bring, letter, cut=len("begun 0 #5\n"))
        self.assertEqual((machine.log_of(0), machine.missing), ("", 9))
        self.assertIs(machine.bring(letter), True)
        self.assertIs(machine.bring(letter), False)
        self.assertIs(machine.bring(letter, cut=-5), False)
        self.assertEqual((machine.log_of(0), machine.ready()), ("begun 0 #5\n", (1,)))
        machine.do(1, word="")
        self.assertEqual(machine.words(), {0: False})
        self.raises(BadStep, "event", machine.do, 1)
        machine.do(2, sent=Empty())
        self.assertEqual(machine.log_of(0), "begun 0 #5\nsaid 1 -\nasked 2 _\n")
        self.assertEqual(machine.recorded(), (0, 1, 2))

    def test_what_is_waited_for(self):
        machine = Machine(FOUR, PHRASE, 5)
        to, back = Letter(5, 2, False, Nonce(123)), Letter(5, 2, True, Empty())
        # Whether a letter may ever be sent is not asked.
        self.assertIs(machine.waits_for(to), True)
        self.assertIs(machine.waits_for(back), False)
        for value in [None, ODD, 0, "5 2 to #123", Letter(6, 2, False, Nonce(1)), Letter(5, 1, False, Empty()),
                      Letter(5, 3, False, Empty()), Letter(5, 4, True, Empty()), Letter(5, 99, False, Empty()),
                      Letter(5, 6, False, Empty()), Letter(5, 6, True, Empty())]:
            self.assertIs(machine.waits_for(value), False)
        machine.do(0)
        for letter in machine.letters():
            machine.send(letter)
            machine.bring(letter)
        machine.do(1)
        machine.do(2)
        self.assertIs(machine.waits_for(back), True)
        self.assertIs(machine.waits_for(to), True)
        machine.send(machine.letters()[1])
        machine.bring(machine.bag()[1])
        self.assertIs(machine.waits_for(to), False)
        self.assertEqual(machine.bag()[1].evidence, machine.letters()[1].evidence)

    def test_letters_of_all_places(self):
        machine = Machine(FOUR, phrase_from("(@1((2>0 -> @0(!))) +~+ @0(0>1))"), 5)
        machine.do(4 + 1)
        machine.do(0)
        for letter in machine.letters():
            machine.send(letter)
            machine.bring(letter)
        machine.do(6)
        machine.do(1)
        machine.do(2)
        machine.do(7)
        told = [(letter.ask, letter.back) for letter in machine.letters()]
        # The judge's first, in the order of its records; then place 0, then place 1.
        self.assertEqual(told, [(5, False), (0, False), (5, True), (2, False)])

    def test_what_was_passed_and_returned(self):
        old = [OLD[0]]
        machine = Machine(FOUR, PHRASE, 5, old=old)
        old.clear()
        self.assertEqual(machine.bag(), (OLD[0],))
        machine.do(0)
        for letter in machine.letters():
            machine.send(letter)
            machine.bring(letter)
        machine.do(1)
        machine.words()[0] = None
        self.assertEqual(machine.words(), {0: True})
        self.assertIsInstance(machine.bag(), tuple)
        self.assertIsInstance(machine.letters(), tuple)
        self.assertIsInstance(machine.recorded(), tuple)

    def test_letters_of_a_bad_manager(self):
        machine = Machine(FOUR, PHRASE, 5)
        machine.do(0, sent=Nonce(4))
        letter = Letter(5, 0, False, Nonce(4))
        self.assertEqual(machine.letters(), (letter,))
        machine.send(letter)
        # An equal letter, though not the same object, is the letter in the bag.
        self.assertIs(machine.bring(as_letter(5, (0, "to", "#4"))), True)
        machine.do(1)
        self.assertEqual(evidence_text(machine.letters()[0].evidence), "#4")
        machine.do(2)
        self.assertEqual(evidence_text(machine.letters()[1].evidence), "0:0>1+(#4)")


if __name__ == "__main__":
    unittest.main()
