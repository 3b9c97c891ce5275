"""Point 70: the text of evidence and its reading."""

import unittest

from deeplooks.errors import BadEvidence, BadText
from deeplooks.evidence import Broken, Empty, Nonce, Pair, Said, Signed
from deeplooks.evidencetexts import evidence_from, evidence_text
from tests.helpers import NO_TEXTS, Case, longest_beginning, near_texts, seeded
from tests.test_evidence import NO_EVIDENCE, some_evidence

FIGURES = "0123456789"
GRAMMAR = {
    "EVIDENCE": [("#", "NONCE"), ("_",), ("x", "0123"), ("[", "EVIDENCE", ",", "EVIDENCE", "]"),
                 ("LEAF", ":", "01234567", ">", "01234567", "+-", "(", "EVIDENCE", ")"),
                 ("!", "LEAF", "@", "0123", "(", "EVIDENCE", ")")],
    "LEAF": [("0",), ("123456789",), ("123456789", FIGURES)],
    "NONCE": [("0",), tuple("1000000000")] + [("123456789",) + (FIGURES,) * k for k in range(9)],
}
SIGNS = "0179#_x!@:>+-()[], $"


class Texts(Case):

    def test_each_kind(self):
        told = [(Nonce(0), "#0"), (Nonce(1000000000), "#1000000000"), (Empty(), "_"), (Broken(3), "x3"),
                (Said(99, 0, 7, True, Empty()), "99:0>7+(_)"), (Said(0, 7, 0, False, Nonce(5)), "0:7>0-(#5)"),
                (Signed(10, 2, Broken(0)), "!10@2(x0)"), (Pair(Empty(), Nonce(1)), "[_,#1]"),
                (Pair(Pair(Empty(), Empty()), Said(1, 2, 3, True, Pair(Empty(), Empty()))), "[[_,_],1:2>3+([_,_])]")]
        for evidence, text in told:
            self.assertEqual(evidence_text(evidence), text)
            self.assertEqual(evidence_from(text), evidence)

    def test_both_ways(self):
        chance = seeded(45)
        for _ in range(400):
            evidence = some_evidence(chance, 7)
            text = evidence_text(evidence)
            self.assertEqual(evidence_from(text), evidence)
            self.assertEqual(evidence_text(evidence_from(text)), text)

    def test_forty_deep(self):
        evidence = Empty()
        for k in range(39):
            evidence = Signed(k, 0, evidence)
        self.assertEqual(evidence_from(evidence_text(evidence)), evidence)
        text = "[" * 60 + "_" + ",_]" * 60
        self.assertEqual(evidence_text(evidence_from(text)), text)

    def test_wrong_texts(self):
        told = [("", 0), ("#", 1), ("#01", 2), ("100:", 2), ("#1000000001", 10), ("#10000000000", 11), ("#-1", 1),
                ("x4", 1), ("x", 1), ("x00", 2), ("__", 1), (" _", 0), ("_ ", 1), ("00:", 1), ("0", 1), ("0:8", 2),
                ("0:0>8", 4), ("0:00", 3), ("0:0>0(", 5), ("0:0>0+_", 6), ("0:0>0+(", 7), ("0:0>0+(_", 8), ("!", 1),
                ("!100", 3), ("!0@4", 3), ("!0@00", 4), ("!a", 1), ("[_", 2), ("[_]", 2), ("[_,_", 4), ("[_,_,_]", 4),
                ("[,_]", 1), ("0:0>0+()", 7), ("#5)", 2), ("#2000000000", 10), ("#1000000000x", 11), ("]", 0)]
        for text, place in told:
            self.assertEqual(longest_beginning(text, GRAMMAR, "EVIDENCE"), (place, False), text)
            self.raises(BadText, place, evidence_from, text)

    def test_near_texts(self):
        chance = seeded(46)
        accepted = 0
        for _ in range(60):
            evidence = some_evidence(chance, 4)
            for text in near_texts(evidence_text(evidence), SIGNS):
                place, right = longest_beginning(text, GRAMMAR, "EVIDENCE")
                if right:
                    accepted += 1
                    self.assertEqual(evidence_text(evidence_from(text)), text)
                else:
                    self.raises(BadText, place, evidence_from, text)
        self.assertGreater(accepted, 300)

    def test_no_text_and_no_evidence(self):
        for value in NO_TEXTS:
            self.raises(BadText, 0, evidence_from, value)
        for value in NO_EVIDENCE:
            self.raises(BadEvidence, "evidence", evidence_text, value)


if __name__ == "__main__":
    unittest.main()
