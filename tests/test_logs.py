"""Points 77, 79 and 80: pieces, what is ready at a place, what an honest station works out."""

import unittest

from deeplooks.errors import BadNumber, BadPhrase, BadStep
from deeplooks.evidence import Empty, Nonce
from deeplooks.evidencetexts import evidence_text
from deeplooks.logs import pieces_at, ready_at, worked_out
from deeplooks.phrases import Look
from deeplooks.phrasetexts import phrase_from
from deeplooks.records import Record, read_log
from deeplooks.systems import System
from tests.helpers import FOUR, NO_INTEGERS, ODD, Case, seeded
from tests.sessions import Session, small_phrases
from tests.slowmachine import Worth
from tests.test_phrases import NO_PHRASES

PHRASE = phrase_from("@0((0>1 -> @1((2>3 -> !))))")


class Logs(Case):

    def test_pieces(self):
        phrase = phrase_from("(@1((2>0 -> @0(!))) +~+ (@0(0>1) -> @0(1>0)))")
        self.assertEqual(pieces_at(FOUR, phrase, -1), (-1,))
        self.assertEqual(pieces_at(FOUR, phrase, 0), (2, 5, 8))
        self.assertEqual(pieces_at(FOUR, phrase, 1), (0,))
        self.assertEqual(pieces_at(FOUR, phrase, 3), ())

    def test_ready_step_by_step(self):
        told = [("", -1, (0,)), ("asked 0 #5\n", -1, ()), ("", 0, ()), ("begun 0 #5\n", 0, (1,)),
                ("begun 0 #5\nsaid 1 -\n", 0, (2,)), ("begun 0 #5\nsaid 1 -\nasked 2 _\n", 0, ()),
                ("begun 0 #5\nsaid 1 -\nasked 2 _\ngot 2 _\n", 0, (5,)),
                ("begun 0 #5\nsaid 1 -\nasked 2 _\ngot 2 _\ndone 0 _\n", 0, ()), ("", 1, ()), ("begun 2 _\n", 1, (3,)),
                ("begun 2 _\nsaid 3 +\n", 1, (4,)), ("begun 2 _\nsaid 3 +\ndone 2 _\n", 1, ()), ("", 2, ())]
        for text, place, ready in told:
            self.assertEqual(ready_at(FOUR, PHRASE, place, read_log(text)), ready)
            self.assertEqual(ready_at(FOUR, PHRASE, place, tuple(read_log(text))), ready)

    def test_a_sign_alone_is_ready_to_be_answered(self):
        phrase = phrase_from("@1(@0(!))")
        self.assertEqual(ready_at(FOUR, phrase, 0, read_log("begun 1 #3\n")), (2,))
        evidence = worked_out(FOUR, phrase, 3, 0, read_log("begun 1 #3\n"), 2)
        self.assertEqual(evidence_text(evidence), "!0@0(#3)")

    def test_worked_out(self):
        log = read_log("begun 0 #9\nsaid 1 -\n")
        self.assertEqual(evidence_text(worked_out(FOUR, PHRASE, 5, 0, log, 2)), "0:0>1-(#9)")
        log = read_log("begun 0 #9\nsaid 1 -\nasked 2 _\ngot 2 [_,#1]\n")
        self.assertEqual(evidence_text(worked_out(FOUR, PHRASE, 5, 0, log, 5)), "[_,#1]")
        self.assertEqual(worked_out(FOUR, PHRASE, 5, -1, [], 0), Nonce(5))
        log = read_log("begun 2 _\nsaid 3 +\n")
        self.assertEqual(evidence_text(worked_out(FOUR, PHRASE, 5, 1, log, 4)), "!0@1(1:2>3+(_))")

    def test_in_drawn_sessions(self):
        chance = seeded(80)
        asked = 0
        for phrase in small_phrases(81, 30):
            session = Session(self, chance, phrase)
            while not session.ended():
                session.step()
                for place, entries in session.model.logs.items():
                    records = read_log(session.model.text(place))
                    ready = session.model.shape.ready(place, entries)
                    self.assertEqual(ready_at(FOUR, phrase, place, records), ready)
                    asked += self.check_worth(session, phrase, place, records)
        self.assertGreater(asked, 300)

    def check_worth(self, session, phrase, place, records):
        """What is worked out at the place is what the log tells; what is not ready is refused."""
        model, asked = session.model, 0
        worth = Worth(phrase, 5, model.logs[place])
        ready = model.shape.ready(place, model.logs[place])
        for event, told in enumerate(model.shape.events):
            if event not in ready or told[0] == "look":
                self.raises(BadStep, "event", worked_out, FOUR, phrase, 5, place, records, event)
                continue
            asked += 1
            right = worth.hands[event] if told[0] == "ask" else worth.writes[model.shape.answers[event]]
            self.assertEqual(evidence_text(worked_out(FOUR, phrase, 5, place, records, event)), right)
        return asked

    def test_hand_of_an_ask_in_branches(self):
        # The other part of a branch need not be done for an ask to be ready.
        phrase = phrase_from("@0((0>1 -> ((1>0 -> @1(!)) -~+ @2(4>0))))")
        log = read_log("begun 0 #9\nsaid 1 +\nsaid 2 -\n")
        self.assertEqual(ready_at(FOUR, phrase, 0, log), (3, 5))
        self.assertEqual(evidence_text(worked_out(FOUR, phrase, 5, 0, log, 3)), "1:1>0-(_)")
        self.assertEqual(evidence_text(worked_out(FOUR, phrase, 5, 0, log, 5)), "0:0>1+(#9)")
        log = read_log("begun 0 #9\nsaid 1 +\n")
        self.assertEqual(ready_at(FOUR, phrase, 0, log), (2, 5))
        self.assertEqual(evidence_text(worked_out(FOUR, phrase, 5, 0, log, 5)), "0:0>1+(#9)")

    def test_errors_in_their_order(self):
        calls = [(pieces_at, ()), (ready_at, (None,))]
        for value in NO_PHRASES + [Look(0, 1)]:
            word = "judge" if isinstance(value, Look) else "phrase"
            for call, more in calls:
                self.raises(BadPhrase, word, call, FOUR, value, True, *more)
            self.raises(BadPhrase, word, worked_out, FOUR, value, True, True, None, None)
        for value in NO_INTEGERS + [-1, 1000000001]:
            self.raises(BadNumber, "nonce", worked_out, FOUR, PHRASE, value, True, None, None)
        for value in NO_INTEGERS + [-2, 4]:
            for call, more in calls:
                self.raises(BadNumber, "place", call, FOUR, PHRASE, value, *more)
            self.raises(BadNumber, "place", worked_out, FOUR, PHRASE, 5, value, [], None)
        small = System(1, [0, 0], [[], []], [0])
        self.raises(BadNumber, "place", pieces_at, small, phrase_from("@0(0>1)"), 1)
        for value in NO_INTEGERS + [-1, 1, 5, 6, ODD]:
            self.raises(BadStep, "event", worked_out, FOUR, PHRASE, 5, -1, [], value)
        self.raises(BadStep, "event", worked_out, FOUR, PHRASE, 5, 0, read_log("begun 0 #5\n"), 1)

    def test_changes_nothing(self):
        records = [Record("begun", 0, Empty()), Record("said", 1, True)]
        held = list(records)
        ready_at(FOUR, PHRASE, 0, records)
        worked_out(FOUR, PHRASE, 5, 0, records, 2)
        self.assertEqual(records, held)


if __name__ == "__main__":
    unittest.main()
