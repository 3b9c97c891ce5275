"""Points 31 and 33: phrases, their leaves, their depth, their numbers of asks, looks and signs."""

import unittest

from deeplooks.errors import BadNumber, BadPhrase
from deeplooks.phrases import (Ask, Branch, Look, Phrase, Sign, Then, ask_many, beside, depth, in_turn,
                               look_many, sign_many)
from tests.helpers import NO_INTEGERS, NO_LISTS, ODD, Case, seeded, some_phrase

NO_PHRASES = [None, 0, True, "!", "0>1", (), [], ODD, Look, Sign, [Sign()]]
P, Q, R = Look(0, 1), Sign(), Ask(3, Look(7, 7))


class Making(Case):

    def test_look(self):
        look = Look(0, 7)
        self.assertEqual((look.measurer, look.target), (0, 7))
        for value in NO_INTEGERS + [-1, 8]:
            self.raises(BadNumber, "measurer", Look, value, value)
            self.raises(BadNumber, "target", Look, 7, value)

    def test_sign(self):
        self.assertEqual(Sign.SIGN, "!")
        self.assertEqual(vars(Sign()), {})

    def test_ask(self):
        ask = Ask(3, P)
        self.assertEqual(ask.place, 3)
        self.assertIs(ask.asked, P)
        self.assertEqual(Ask(0, P).place, 0)
        for value in NO_INTEGERS + [-1, 4]:
            self.raises(BadNumber, "place", Ask, value, None)
        for value in NO_PHRASES:
            self.raises(BadPhrase, "asked", Ask, 0, value)

    def test_then(self):
        then = Then(P, Q)
        self.assertIs(then.first, P)
        self.assertIs(then.second, Q)
        for value in NO_PHRASES:
            self.raises(BadPhrase, "first", Then, value, value)
            self.raises(BadPhrase, "second", Then, P, value)

    def test_branch(self):
        branch = Branch(P, Q)
        self.assertIs(branch.left, P)
        self.assertIs(branch.right, Q)
        marks = (branch.keep_left, branch.keep_right, branch.together)
        self.assertEqual(marks, (True, True, False))
        branch = Branch(P, Q, keep_left=0, keep_right="", together=[0])
        for value, right in ((branch.keep_left, False), (branch.keep_right, False), (branch.together, True)):
            self.assertIs(value, right)
        for value in NO_PHRASES:
            self.raises(BadPhrase, "left", Branch, value, value)
            self.raises(BadPhrase, "right", Branch, P, value)
        with self.assertRaises(TypeError):
            Branch(P, Q, True)

    def test_marks(self):
        right = ("-;-", "-;+", "+;-", "+;+", "-~-", "-~+", "+~-", "+~+")
        self.assertEqual(Branch.MARKS, right)

    def test_kinds(self):
        kinds = [Look, Sign, Ask, Then, Branch]
        for one in kinds:
            self.assertTrue(issubclass(one, Phrase))
            for other in kinds:
                self.assertEqual(issubclass(one, other), one is other)

    def test_equal(self):
        def made():
            return [Look(0, 1), Look(1, 0), Look(0, 0), Sign(), Ask(0, P), Ask(1, P), Ask(0, Q), Then(P, Q),
                    Then(Q, P), Then(P, P), Branch(P, Q), Branch(Q, P), Branch(P, P), Branch(P, Q, keep_left=False),
                    Branch(P, Q, keep_right=False), Branch(P, Q, together=True), Then(Ask(0, P), R)]
        for i, one in enumerate(made()):
            for j, other in enumerate(made()):
                self.assertIs(one == other, i == j)
                self.assertIs(one != other, i != j)
            for other in (None, 0, "!", "0>1", ODD):
                self.assertIs(one == other, False)


class Asking(Case):

    def test_leaves(self):
        for leaf in (P, Q):
            found = leaf.leaves()
            self.assertIs(type(found), list)
            self.assertEqual(len(found), 1)
            self.assertIs(found[0], leaf)
        one, two, three = Look(0, 0), Look(1, 1), Sign()
        whole = Branch(Then(one, Ask(1, two)), Then(three, one))
        for found, right in zip(whole.leaves(), [one, two, three, one]):
            self.assertIs(found, right)
        whole.leaves().append(Q)
        self.assertEqual(len(whole.leaves()), 4)

    def test_parts_of(self):
        self.assertEqual(P.parts_of(), ())
        self.assertEqual(Q.parts_of(), ())
        for whole, parts in ((Ask(0, P), [P]), (Then(P, Q), [P, Q]), (Branch(Q, P), [Q, P])):
            self.assertIs(type(whole.parts_of()), tuple)
            self.assertEqual(len(whole.parts_of()), len(parts))
            for found, right in zip(whole.parts_of(), parts):
                self.assertIs(found, right)

    def test_depth(self):
        self.assertEqual([depth(P), depth(Q), depth(R), depth(Then(R, P)), depth(Branch(P, Then(P, R)))],
                         [1, 1, 2, 3, 4])
        deep = P
        for _ in range(59):
            deep = Ask(0, deep)
        self.assertEqual(depth(deep), 60)

    def test_numbers(self):
        whole = Branch(Then(P, Ask(1, Then(P, Q))), Ask(0, R))
        self.assertEqual((ask_many(whole), look_many(whole), sign_many(whole)), (3, 3, 1))
        self.assertEqual((ask_many(P), look_many(P), sign_many(P)), (0, 1, 0))
        self.assertEqual((ask_many(Q), look_many(Q), sign_many(Q)), (0, 0, 1))

    def test_one_object_at_several_places_counts_at_each(self):
        both = Branch(P, Ask(1, Q))
        whole = Then(both, Branch(both, both))
        self.assertEqual((ask_many(whole), look_many(whole), sign_many(whole), len(whole.leaves())), (3, 3, 3, 6))

    def test_leaves_agree_with_the_numbers(self):
        chance = seeded(20)
        for _ in range(200):
            phrase = some_phrase(chance, 6)
            self.assertEqual(len(phrase.leaves()), look_many(phrase) + sign_many(phrase))
            self.assertEqual(depth(phrase), 1 + max(depth(part) for part in phrase.parts_of()))
            self.assertEqual([type(leaf) for leaf in phrase.leaves()].count(Look), look_many(phrase))


class PutTogether(Case):

    def test_in_turn(self):
        self.assertIs(in_turn(P), P)
        self.assertEqual(in_turn(P, Q), Then(P, Q))
        self.assertEqual(in_turn(P, Q, R), Then(Then(P, Q), R))

    def test_beside(self):
        self.assertIs(beside(P), P)
        self.assertIs(beside(P, together=False), P)
        self.assertEqual(beside(P, Q), Branch(P, Q, together=True))
        self.assertEqual(beside(P, Q, R, together=False), Branch(Branch(P, Q), R))
        three = beside(P, Q, R)
        self.assertEqual(three, Branch(Branch(P, Q, together=True), R, together=True))
        self.assertIs(beside(P, Q, together=1).together, True)

    def test_refused(self):
        for call in (in_turn, beside):
            self.raises(BadPhrase, "phrases", call)
            for value in NO_PHRASES + NO_LISTS:
                self.raises(BadPhrase, "phrases", call, value)
                self.raises(BadPhrase, "phrases", call, P, value, Q)
        self.raises(BadPhrase, "phrases", lambda: beside(together=False))


if __name__ == "__main__":
    unittest.main()
