"""Points 3 and 4: the errors."""

import unittest

from deeplooks import errors
from tests.helpers import Case

NAMED = ["BadNumber", "BadSet", "BadSystem", "BadFoe", "BadPhrase", "BadOrder", "BadEvidence", "BadStep",
         "BadPrices", "BadTour", "BadBook", "TooMany", "NotThere"]
PLACED = ["BadText", "BadRow", "BadLine", "BadRun", "BadDeed", "BadLot"]


class Errors(Case):

    def test_each_keeps_its_name(self):
        for word in NAMED:
            error = getattr(errors, word)("start")
            self.assertEqual(error.name, "start")
            self.assertEqual(str(error), word + ": start")
            self.assertFalse(hasattr(error, "place"))

    def test_each_keeps_its_place(self):
        for word in PLACED:
            for place in (0, -1, 4, (0, 3)):
                error = getattr(errors, word)(place)
                self.assertIs(error.place, place)
                self.assertEqual(str(error), f"{word}: {place}")
                self.assertFalse(hasattr(error, "name"))

    def test_a_row_keeps_the_very_value(self):
        for value in ([1], True, None, "x", (1, 2)):
            error = errors.BadRow(value)
            self.assertIs(error.place, value)
            self.assertEqual(str(error), "BadRow: " + str(value))

    def test_aim_has_nothing(self):
        error = errors.BadAim()
        self.assertEqual(str(error), "BadAim")
        self.assertEqual(vars(error), {})

    def test_none_is_a_subclass_of_another(self):
        found = [getattr(errors, word) for word in NAMED + PLACED + ["BadAim"]]
        for one in found:
            self.assertTrue(issubclass(one, errors.DeepError))
            for other in found:
                self.assertEqual(issubclass(one, other), one is other)
        self.assertTrue(issubclass(errors.DeepError, Exception))

    def test_they_can_be_raised_and_caught(self):
        with self.assertRaises(errors.DeepError):
            raise errors.BadAim()
        self.raises(errors.BadSet, "start", self.throw, errors.BadSet("start"))
        self.raises(errors.BadDeed, (1, 2), self.throw, errors.BadDeed((1, 2)))

    def throw(self, error):
        raise error


if __name__ == "__main__":
    unittest.main()
