"""Points 61 and 62: evidence, its knots, paths, reading order."""

import unittest

from deeplooks.errors import BadEvidence, NotThere
from deeplooks.evidence import (Broken, Empty, Evidence, Nonce, Pair, Said, Signed, at_path, put_at, words_in)
from deeplooks.evidencetexts import evidence_text
from tests.helpers import NO_INTEGERS, NO_LISTS, ODD, Case, seeded

NO_EVIDENCE = [None, 0, True, "#0", "_", (), [], ODD, Empty, {}]


def some_evidence(chance, deep):
    """Evidence of any kinds, at most so deep."""
    kind = chance.random()
    if deep <= 1 or kind < 0.15:
        leaf = chance.randrange(3)
        if leaf == 0:
            return Nonce(chance.choice([0, 1, 9, 10, 99, 100, 123456789, 999999999, 1000000000]))
        return Empty() if leaf == 1 else Broken(chance.randrange(4))
    if kind < 0.5:
        look = chance.choice([0, 5, 9, 10, 99])
        good = chance.random() < 0.5
        return Said(look, chance.randrange(8), chance.randrange(8), good, some_evidence(chance, deep - 1))
    if kind < 0.75:
        return Signed(chance.choice([0, 7, 10, 99]), chance.randrange(4), some_evidence(chance, deep - 1))
    return Pair(some_evidence(chance, deep - 1), some_evidence(chance, deep - 1))


def all_paths(evidence, path=()):
    """The path and the piece of each piece in it, in reading order, by point 62."""
    found = [(path, evidence)]
    steps = ("left", "right") if isinstance(evidence, Pair) else ("in",)
    for step, inner in zip(steps, evidence.insides()):
        found = found + all_paths(inner, path + (step,))
    return found


class Making(Case):

    def test_attributes(self):
        inner = Nonce(0)
        said = Said(99, 0, 7, "yes", inner)
        self.assertEqual((said.look, said.measurer, said.target, said.good), (99, 0, 7, True))
        self.assertIs(said.good, True)
        self.assertIs(Said(0, 0, 0, 0, inner).good, False)
        self.assertIs(said.inner, inner)
        signed = Signed(99, 3, inner)
        self.assertEqual((signed.sign, signed.place), (99, 3))
        self.assertIs(signed.inner, inner)
        pair = Pair(inner, said)
        self.assertIs(pair.left, inner)
        self.assertIs(pair.right, said)
        self.assertEqual((Nonce(1000000000).number, Broken(3).place), (1000000000, 3))
        self.assertEqual(vars(Empty()), {})

    def test_wrong_numbers(self):
        inner = Empty()
        for value in NO_INTEGERS + [-1]:
            self.raises(BadEvidence, "number", Nonce, value)
            self.raises(BadEvidence, "place", Broken, value)
            self.raises(BadEvidence, "look", Said, value, value, value, True, value)
            self.raises(BadEvidence, "measurer", Said, 0, value, value, True, value)
            self.raises(BadEvidence, "target", Said, 0, 0, value, True, value)
            self.raises(BadEvidence, "sign", Signed, value, value, value)
            self.raises(BadEvidence, "place", Signed, 0, value, value)
        self.raises(BadEvidence, "number", Nonce, 1000000001)
        self.raises(BadEvidence, "place", Broken, 4)
        self.raises(BadEvidence, "look", Said, 100, 0, 0, True, inner)
        self.raises(BadEvidence, "measurer", Said, 99, 8, 0, True, inner)
        self.raises(BadEvidence, "target", Said, 99, 7, 8, True, inner)
        self.raises(BadEvidence, "sign", Signed, 100, 0, inner)
        self.raises(BadEvidence, "place", Signed, 99, 4, inner)

    def test_wrong_pieces(self):
        for value in NO_EVIDENCE:
            self.raises(BadEvidence, "inner", Said, 0, 0, 0, True, value)
            self.raises(BadEvidence, "inner", Signed, 0, 0, value)
            self.raises(BadEvidence, "left", Pair, value, value)
            self.raises(BadEvidence, "right", Pair, Empty(), value)

    def test_kinds(self):
        kinds = [Nonce, Empty, Broken, Said, Signed, Pair]
        for one in kinds:
            self.assertTrue(issubclass(one, Evidence))
            for other in kinds:
                self.assertEqual(issubclass(one, other), one is other)

    def test_equal(self):
        def made():
            a, b = Nonce(0), Empty()
            return [a, Nonce(1), b, Broken(0), Broken(1), Said(0, 0, 0, True, a), Said(1, 0, 0, True, a),
                    Said(0, 1, 0, True, a), Said(0, 0, 1, True, a), Said(0, 0, 0, False, a), Said(0, 0, 0, True, b),
                    Signed(0, 0, a), Signed(1, 0, a), Signed(0, 1, a), Signed(0, 0, b), Pair(a, b), Pair(b, a),
                    Pair(a, a)]
        for i, one in enumerate(made()):
            for j, other in enumerate(made()):
                self.assertIs(one == other, i == j)
                self.assertIs(one != other, i != j)
            for other in NO_EVIDENCE:
                self.assertIs(one == other, False)

    def test_insides_and_knots(self):
        a, b = Nonce(0), Empty()
        for leaf in (a, b, Broken(2)):
            self.assertEqual((leaf.insides(), leaf.knots()), ((), 1))
        for whole, inner, knots in ((Said(0, 0, 0, True, a), [a], 2), (Signed(0, 0, b), [b], 2), (Pair(a, b), [a, b], 3),
                                    (Pair(a, Signed(0, 0, Pair(a, a))), None, 6)):
            self.assertEqual(whole.knots(), knots)
            self.assertIs(type(whole.insides()), tuple)
            if inner is not None:
                self.assertEqual(len(whole.insides()), len(inner))
                for found, right in zip(whole.insides(), inner):
                    self.assertIs(found, right)


class Paths(Case):

    def test_all_paths(self):
        chance = seeded(43)
        for _ in range(150):
            evidence = some_evidence(chance, 6)
            text = evidence_text(evidence)
            told = all_paths(evidence)
            self.assertEqual(len(told), evidence.knots())
            for path, piece in told:
                self.assertIs(at_path(evidence, path), piece)
                self.assertIs(at_path(evidence, list(path)), piece)
                for step in ("in", "left", "right"):
                    if (*path, step) not in [other for other, _ in told]:
                        self.raises(NotThere, "path", at_path, evidence, (*path, step))
            words = tuple((path, piece.look, piece.good) for path, piece in told if isinstance(piece, Said))
            self.assertEqual(words_in(evidence), words)
            self.assertEqual(evidence_text(evidence), text)

    def test_put_at(self):
        chance = seeded(44)
        other = Signed(98, 3, Pair(Broken(1), Nonce(424242)))
        for _ in range(100):
            evidence = some_evidence(chance, 5)
            text = evidence_text(evidence)
            for path, piece in all_paths(evidence):
                made = put_at(evidence, path, other)
                self.assertIs(at_path(made, path), other)
                self.assertEqual(put_at(made, list(path), piece), evidence)
                self.assertEqual(evidence_text(evidence), text)
                for near, kept in all_paths(evidence):
                    apart = [one != two for one, two in zip(near, path)]
                    if any(apart):
                        self.assertEqual(at_path(made, near), kept)

    def test_no_paths(self):
        whole = Pair(Said(0, 0, 0, True, Empty()), Nonce(3))
        wrong = ["", "in", ("in",), ["left", "left"], ["right", "in"], ["left", "in", "in"], [0], [None], ["Left"],
                 [["left"]], [ODD], {"left": 0}, ("left", "up")]
        for value in NO_LISTS + wrong:
            self.raises(NotThere, "path", at_path, whole, value)
            self.raises(NotThere, "path", put_at, whole, value, None)
        for value in NO_EVIDENCE:
            self.raises(BadEvidence, "evidence", at_path, value, None)
            self.raises(BadEvidence, "evidence", put_at, value, None, None)
            self.raises(BadEvidence, "evidence", words_in, value)
            self.raises(BadEvidence, "other", put_at, whole, ["left"], value)

    def test_one_object_at_two_places(self):
        said = Said(1, 2, 3, False, Empty())
        whole = Pair(said, said)
        self.assertEqual(whole.knots(), 5)
        self.assertEqual(words_in(whole), ((("left",), 1, False), (("right",), 1, False)))
        made = put_at(whole, ["left", "in"], Nonce(1))
        self.assertEqual(made, Pair(Said(1, 2, 3, False, Nonce(1)), said))
        self.assertEqual(whole, Pair(said, said))


if __name__ == "__main__":
    unittest.main()
