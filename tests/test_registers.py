"""Point 189: registers of looks and words."""

import unittest

from deeplooks.errors import BadEvidence, BadLine, BadSet
from deeplooks.registers import Mix, Register, Zero, clean_register, register_of, rows_told
from tests.asked import some_pairs, wrong_rows
from tests.helpers import NO_INTEGERS, NO_LISTS, ODD, Case, seeded


class Registers(Case):

    def test_there_and_back(self):
        chance = seeded(450)
        for _ in range(300):
            looks = some_pairs(chance, 8, chance.randrange(17))
            words = [chance.random() < 0.6 for _ in looks]
            register = register_of(looks, tuple(words))
            told = rows_told(register)
            self.assertEqual(told, (tuple(tuple(look) for look in looks), tuple(words)))
            self.assertTrue(all(type(look) is tuple for look in told[0]))
            self.assertEqual(register_of(*told), register)
            self.assertEqual(register == clean_register(looks), all(words))

    def test_equal_exactly_if_from_the_same_row_and_words(self):
        chance = seeded(451)
        told = {}
        for _ in range(600):
            cases = []
            for _ in range(2):
                looks = tuple(tuple(look) for look in some_pairs(chance, 2, chance.randrange(4)))
                cases.append((looks, tuple(chance.random() < 0.5 for _ in looks)))
            one, other = [register_of(*case) for case in cases]
            self.assertIs(one == other, cases[0] == cases[1])
            self.assertIs(one != other, cases[0] != cases[1])
            told[cases[0] == cases[1]] = told.get(cases[0] == cases[1], 0) + 1
        self.assertGreater(min(told.values()), 20)

    def test_classes(self):
        zero = Zero()
        mix = Mix(zero, 3, 7, "bad")
        self.assertIsInstance(zero, Register)
        self.assertIsInstance(mix, Register)
        self.assertFalse(issubclass(Mix, Zero) or issubclass(Zero, Mix))
        self.assertEqual((mix.inner, mix.measurer, mix.target), (zero, 3, 7))
        self.assertIs(mix.good, True)
        self.assertIs(Mix(zero, 3, 7, 0).good, False)
        self.assertEqual(Zero(), zero)
        self.assertNotEqual(zero, mix)
        self.assertNotEqual(mix, zero)
        self.assertEqual(mix, Mix(Zero(), 3, 7, True))
        for other in (Mix(zero, 3, 7, False), Mix(zero, 2, 7, True), Mix(zero, 3, 6, True), Mix(mix, 3, 7, True), None, 0, ODD):
            self.assertFalse(mix == other)
            self.assertTrue(mix != other)
            self.assertFalse(zero == other)
        self.assertEqual(rows_told(zero), ((), ()))
        self.assertEqual(clean_register([]), zero)
        self.assertEqual(clean_register([[0, 1]]), Mix(zero, 0, 1, True))
        deep = zero
        for k in range(100):
            deep = Mix(deep, k % 8, 1, True)
        self.assertEqual(len(rows_told(deep)[0]), 100)
        self.assertEqual(deep, Mix(deep.inner, 3, 1, True))

    def test_words_as_bool_tells_them(self):
        register = register_of([(0, 1), (1, 2), (2, 2)], ["no", 0, None])
        self.assertEqual(rows_told(register), (((0, 1), (1, 2), (2, 2)), (True, False, False)))

    def test_errors_in_their_order(self):
        for value in NO_LISTS + [ODD]:
            self.raises(BadEvidence, "inner", Mix, value, None, None, None)
        for value in NO_INTEGERS + [-1, 8]:
            self.raises(BadEvidence, "measurer", Mix, Zero(), value, None, None)
            self.raises(BadEvidence, "target", Mix, Zero(), 7, value, None)
        for value, place in wrong_rows(8, 16):
            self.raises(BadLine, place, register_of, value, None)
            self.raises(BadLine, place, clean_register, value)
        self.assertEqual(len(rows_told(clean_register([(0, 1)] * 16))[0]), 16)
        for value in NO_LISTS + [[], [True], [True] * 3]:
            self.raises(BadSet, "words", register_of, [(0, 1), (2, 3)], value)
        looks, words = [[0, 1], (2, 2)], [True, False]
        register = register_of(looks, words)
        looks.clear()
        words.clear()
        self.assertEqual(rows_told(register), (((0, 1), (2, 2)), (True, False)))


if __name__ == "__main__":
    unittest.main()
