"""Points 69 and 71: the judge, the first fault with its path and its word."""

import unittest

from deeplooks.errors import BadEvidence, BadNumber, BadPhrase
from deeplooks.evidence import Broken, Empty, Nonce, Pair, Said, Signed, at_path, put_at
from deeplooks.evidencetexts import evidence_text
from deeplooks.judges import first_fault, judge_text, takes
from deeplooks.phrases import Look, look_many
from deeplooks.phrasetexts import phrase_from
from deeplooks.worth import clean_of, copies_of, evidence_of, lost_looks
from tests.fitting import fitting_phrases
from tests.helpers import FOUR, NO_INTEGERS, NO_TEXTS, Case, seeded
from tests.test_evidence import NO_EVIDENCE, all_paths
from tests.test_phrases import NO_PHRASES
from tests.test_worth import many_phrases

PHRASE = phrase_from("@0((0>1 -> @1((2>3 -> !))))")


def changes(piece):
    """Each way to change one piece, what is inside left as it is, with the word that tells it."""
    inner = piece.insides()
    if isinstance(piece, Nonce):
        yield Nonce(piece.number + 1), "nonce"
        yield Nonce(0 if piece.number else 7), "nonce"
    if isinstance(piece, Said):
        look, a, b, held = piece.look, piece.measurer, piece.target, piece.inner
        yield Said(look + 1, a, b, True, held), "number"
        yield Said(look + 1, (a + 1) % 8, (b + 1) % 8, False, held), "number"
        yield Said(look, (a + 1) % 8, b, True, held), "part"
        yield Said(look, a, (b + 1) % 8, True, held), "part"
        yield Said(look, (a + 1) % 8, (b + 3) % 8, False, held), "part"
        yield Said(look, a, b, False, held), "word"
        yield Signed(look, 0, held), "shape"
    if isinstance(piece, Signed):
        yield Signed(piece.sign + 1, piece.place, piece.inner), "number"
        yield Signed(piece.sign + 1, (piece.place + 1) % 4, piece.inner), "number"
        yield Signed(piece.sign, (piece.place + 1) % 4, piece.inner), "place"
        yield Said(piece.sign, 0, 0, True, piece.inner), "shape"
    for other in (Empty(), Nonce(5), Broken(0), Pair(Empty(), Empty())):
        if type(other) is not type(piece):
            yield other, "shape"
    if inner:
        yield inner[0], None


class Judges(Case):

    def test_clean_evidence_is_taken(self):
        for phrase in list(many_phrases())[:120]:
            for nonce in (0, 5, 1000000000):
                clean = clean_of(FOUR, phrase, nonce)
                self.assertIsNone(first_fault(FOUR, phrase, nonce, clean))
                self.assertIs(takes(FOUR, phrase, nonce, clean), True)
                self.assertIsNone(judge_text(FOUR, phrase, nonce, evidence_text(clean)))

    def test_one_change_each(self):
        for phrase in [PHRASE] + list(fitting_phrases(60, 60)):
            clean = clean_of(FOUR, phrase, 5)
            if clean.knots() > 60:
                continue
            for path, piece in all_paths(clean):
                for changed, word in changes(piece):
                    evidence = put_at(clean, path, changed)
                    found = first_fault(FOUR, phrase, 5, evidence)
                    if word is None:
                        self.assertEqual(found is None, evidence == clean)
                        continue
                    self.assertEqual(found, (path, word))
                    self.assertIs(type(found), tuple)
                    self.assertIs(type(found[0]), tuple)
                    self.assertIs(takes(FOUR, phrase, 5, evidence), False)
                    self.assertEqual(judge_text(FOUR, phrase, 5, evidence_text(evidence)), found)

    def test_the_outer_and_the_left_fault_come_first(self):
        phrase = phrase_from("@0((0>1 -> (! +;+ (1>0 -> !))))")
        clean = clean_of(FOUR, phrase, 5)
        self.assertEqual(evidence_text(clean), "[!0@0(0:0>1+(#5)),!1@0(1:1>0+(0:0>1+(#5)))]")
        told = [("[!0@0(0:0>1-(#6)),!2@0(1:1>0+(0:0>1+(#5)))]", (("left", "in"), "word")),
                ("[!0@0(0:0>1+(#6)),!2@0(1:1>0+(0:0>1+(#5)))]", (("left", "in", "in"), "nonce")),
                ("[!0@0(0:0>1+(#5)),!2@1(1:1>0-(0:0>1+(#5)))]", (("right",), "number")),
                ("[!0@0(0:0>1+(#5)),!1@3(1:1>0-(0:0>1+(#5)))]", (("right",), "place")),
                ("[!0@0(0:0>1+(#5)),!1@0(2:1>0-(0:0>1+(#5)))]", (("right", "in"), "number")),
                ("[!0@0(0:0>1+(#5)),!1@0(1:1>1-(0:0>1+(#5)))]", (("right", "in"), "part")),
                ("[!0@0(0:0>1+(#5)),!1@0(1:1>0-(0:0>1-(#5)))]", (("right", "in"), "word")),
                ("!0@0(0:0>1+(#5))", ((), "shape")), ("x0", ((), "shape")), ("#5", ((), "shape")),
                ("[!0@0(0:0>1+(#5)),x0]", (("right",), "shape")), ("[_,x0]", (("left",), "shape")),
                ("[!0@0(0:0>1+(_)),_]", (("left", "in", "in"), "shape"))]
        for text, found in told:
            self.assertEqual(judge_text(FOUR, phrase, 5, text), found, text)

    def test_other_nonces_and_phrases(self):
        for phrase in list(fitting_phrases(61, 80)):
            clean = clean_of(FOUR, phrase, 5)
            nonces = [path for path, piece in all_paths(clean) if isinstance(piece, Nonce)]
            other = clean_of(FOUR, phrase, 6)
            found = first_fault(FOUR, phrase, 5, other)
            self.assertEqual(found, (nonces[0], "nonce") if nonces else None)
            self.assertEqual(takes(FOUR, phrase, 5, clean_of(FOUR, PHRASE, 5)), clean == clean_of(FOUR, PHRASE, 5))

    def test_bad_words(self):
        chance = seeded(62)
        for phrase in list(many_phrases())[:200]:
            words = [chance.random() < 0.5 for _ in range(look_many(phrase))]
            copies = copies_of(phrase)
            bad = sorted(path for look, good in enumerate(words) if not good for path in copies[look])
            found = first_fault(FOUR, phrase, 5, evidence_of(FOUR, phrase, 5, words))
            self.assertEqual(found, (bad[0], "word") if bad else None)

    def test_all_bad_words_on_lost_looks_alone(self):
        tried = 0
        for phrase in many_phrases():
            lost = lost_looks(phrase)
            if lost:
                tried += 1
                words = [look not in lost for look in range(look_many(phrase))]
                self.assertIs(takes(FOUR, phrase, 5, evidence_of(FOUR, phrase, 5, words)), True)
        self.assertGreater(tried, 20)

    def test_what_evidence_does_not_tell(self):
        pairs = [("@0((0>1 +~+ 1>0))", "@0((0>1 +;+ 1>0))"), ("@0(((0>1 -> !) -> 1>0))", "@0((0>1 -> (! -> 1>0)))"),
                 ("@0((0>1 -> !))", "@0(@0((0>1 -> @0(!))))"), ("@0(0>1)", "@1(@0(0>1))")]
        for one, other in pairs:
            evidence = clean_of(FOUR, phrase_from(one), 9)
            self.assertIs(takes(FOUR, phrase_from(other), 9, evidence), True)

    def test_texts_that_are_not_read(self):
        told = [("", 0), ("#01", 2), ("100:", 2), ("#1000000001", 10), ("!0@0(", 5), ("_ ", 1)]
        for text, place in told:
            self.assertEqual(judge_text(FOUR, PHRASE, 5, text), ("text", place))
        for value in NO_TEXTS:
            self.assertEqual(judge_text(FOUR, PHRASE, 5, value), ("text", 0))

    def test_errors_in_their_order(self):
        clean = clean_of(FOUR, PHRASE, 5)
        for value in NO_PHRASES + [Look(0, 1)]:
            word = "judge" if isinstance(value, Look) else "phrase"
            self.raises(BadPhrase, word, first_fault, FOUR, value, True, None)
            self.raises(BadPhrase, word, takes, FOUR, value, True, None)
            self.raises(BadPhrase, word, judge_text, FOUR, value, True, None)
        for value in NO_INTEGERS + [-1, 1000000001]:
            self.raises(BadNumber, "nonce", first_fault, FOUR, PHRASE, value, None)
            self.raises(BadNumber, "nonce", takes, FOUR, PHRASE, value, None)
            self.raises(BadNumber, "nonce", judge_text, FOUR, PHRASE, value, None)
        for value in NO_EVIDENCE:
            self.raises(BadEvidence, "evidence", first_fault, FOUR, PHRASE, 5, value)
            self.raises(BadEvidence, "evidence", takes, FOUR, PHRASE, 5, value)
        self.assertEqual(clean, clean_of(FOUR, PHRASE, 5))
        self.assertIs(type(at_path(clean, ())), Signed)


if __name__ == "__main__":
    unittest.main()
