"""Point 81: letters, their texts, and which may be sent."""

import unittest

from deeplooks.errors import BadNumber, BadPhrase, BadStep, BadText
from deeplooks.evidence import Empty, Nonce, Signed
from deeplooks.letters import Letter, letter_from, letter_text, letters_of
from deeplooks.phrases import Look
from deeplooks.phrasetexts import phrase_from
from deeplooks.records import read_log
from tests.helpers import FOUR, NO_INTEGERS, NO_TEXTS, Case, longest_beginning, near_texts, seeded
from tests.test_evidence import NO_EVIDENCE, some_evidence
from tests.test_evidencetexts import GRAMMAR
from tests.test_phrases import NO_PHRASES

TEXTS = dict(GRAMMAR)
TEXTS["LETTER"] = [("NONCE", " ", "LEAF", " ", "t", "o", " ", "EVIDENCE"),
                   ("NONCE", " ", "LEAF", " ", "b", "a", "c", "k", " ", "EVIDENCE")]
PHRASE = phrase_from("@0((0>1 -> @1((2>3 -> !))))")


class Letters(Case):

    def test_attributes(self):
        evidence = Nonce(7)
        letter = Letter(1000000000, 99, 1, evidence)
        self.assertEqual((letter.nonce, letter.ask), (1000000000, 99))
        self.assertIs(letter.back, True)
        self.assertIs(letter.evidence, evidence)
        for value in (0, "", None, []):
            self.assertIs(Letter(0, 0, value, evidence).back, False)
        self.assertIs(Letter(0, 0, "no", evidence).back, True)

    def test_errors_in_their_order(self):
        for value in NO_INTEGERS + [-1, 1000000001]:
            self.raises(BadStep, "nonce", Letter, value, True, None, None)
        for value in NO_INTEGERS + [-1, 100]:
            self.raises(BadStep, "ask", Letter, 0, value, None, None)
        for value in NO_EVIDENCE:
            self.raises(BadStep, "evidence", Letter, 0, 0, None, value)

    def test_equality(self):
        letter = Letter(5, 0, False, Nonce(5))
        self.assertTrue(letter == Letter(5, 0, 0, Nonce(5)))
        for other in [Letter(6, 0, False, Nonce(5)), Letter(5, 1, False, Nonce(5)), Letter(5, 0, True, Nonce(5)),
                      Letter(5, 0, False, Nonce(6)), None, 5, "5 0 to #5"]:
            self.assertFalse(letter == other)

    def test_texts(self):
        told = [(Letter(0, 0, False, Empty()), "0 0 to _"), (Letter(1000000000, 99, True, Empty()), "1000000000 99 back _"),
                (Letter(5, 2, True, Signed(0, 1, Nonce(5))), "5 2 back !0@1(#5)")]
        for letter, text in told:
            self.assertEqual(letter_text(letter), text)
            self.assertEqual(letter_from(text), letter)

    def test_both_ways(self):
        chance = seeded(82)
        for _ in range(200):
            letter = Letter(chance.choice([0, 1, 10, 999999999]), chance.choice([0, 9, 10, 99]), chance.random() < 0.5,
                            some_evidence(chance, 4))
            self.assertEqual(letter_from(letter_text(letter)), letter)

    def test_near_texts(self):
        chance = seeded(83)
        wrong = 0
        for text in ["5 2 back !0@1(#5)", "1000000000 10 to _", "0 0 to [_,x3]", "10 99 back 1:2>3-(#0)"]:
            for near in near_texts(text, "019 tobackx#_!@(),[]:>+-\n"):
                length, whole = longest_beginning(near, TEXTS, "LETTER")
                if whole and length == len(near):
                    self.assertEqual(letter_text(letter_from(near)), near)
                else:
                    wrong += 1
                    self.raises(BadText, 0, letter_from, near)
        self.assertGreater(wrong, 1000)
        self.assertIsNotNone(chance)

    def test_wrong_texts(self):
        for text in ["", " ", "5 2 to", "5 2 to ", " 5 2 to _", "5 2 to _ ", "5  2 to _", "05 2 to _", "5 02 to _",
                     "1000000001 2 to _", "5 100 to _", "-5 2 to _", "5 2 TO _", "5 2 too _", "5 2 to #01", "5 2 to _\n",
                     "5 2 to _ _", "x 2 to _", "5 x to _"]:
            self.raises(BadText, 0, letter_from, text)
        for value in NO_TEXTS:
            self.raises(BadText, 0, letter_from, value)

    def test_which_may_be_sent(self):
        log = read_log("begun 0 #9\nsaid 1 -\nasked 2 _\ngot 2 [_,#1]\ndone 0 x1\n")
        found = letters_of(FOUR, PHRASE, 5, 0, log)
        self.assertIs(type(found), tuple)
        self.assertEqual([letter_text(letter) for letter in found], ["5 2 to _", "5 0 back x1"])
        self.assertEqual(letters_of(FOUR, PHRASE, 5, 0, tuple(log[:2])), ())
        self.assertEqual(letters_of(FOUR, PHRASE, 5, -1, read_log("asked 0 #5\n")), (Letter(5, 0, False, Nonce(5)),))

    def test_errors_of_letters_of(self):
        for value in NO_PHRASES + [Look(0, 1)]:
            word = "judge" if isinstance(value, Look) else "phrase"
            self.raises(BadPhrase, word, letters_of, FOUR, value, True, True, None)
        for value in NO_INTEGERS + [-1, 1000000001]:
            self.raises(BadNumber, "nonce", letters_of, FOUR, PHRASE, value, True, None)
        for value in NO_INTEGERS + [-2, 4]:
            self.raises(BadNumber, "place", letters_of, FOUR, PHRASE, 5, value, None)


if __name__ == "__main__":
    unittest.main()
