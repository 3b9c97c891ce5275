"""Points 32 and 34: where leaves stand, and when a phrase fits a system; point 7 for void looks."""

import unittest

from deeplooks.checks import check_phrase, event_many, stands_at, void_looks
from deeplooks.errors import BadPhrase
from deeplooks.events import events_of, look_events, look_order, order_of
from deeplooks.phrases import Ask, Branch, Look, Sign, Then, beside, depth, in_turn
from deeplooks.phrasetexts import phrase_from
from deeplooks.rows import extremes
from deeplooks.systems import System
from deeplooks.ways import all_ways, left_before, way_of
from deeplooks.worth import clean_of, evidence_of
from tests.helpers import FOUR, ODD, Case, seeded, some_phrase

# Two places; part 0 and 1 at place 0, part 2 at place 1; 1 needs 0.
TWO = System(2, [0, 0, 1], [[], [0], []], [0, 2])


def deep(levels):
    """A phrase of so many levels that fits, with one look."""
    phrase = Look(0, 1)
    for k in range(levels - 2):
        phrase = Branch(phrase, Sign()) if k < 5 else Then(phrase, Sign()) if k < 10 else Ask(0, phrase)
    return Ask(0, phrase)


def places_of(phrase, place=-1):
    """The places of the leaves, straight from point 32."""
    if isinstance(phrase, (Look, Sign)):
        return [place]
    inner = phrase.place if isinstance(phrase, Ask) else place
    return [found for part in phrase.parts_of() for found in places_of(part, inner)]


class Fits(Case):

    def refused(self, word, phrase, system=TWO):
        """Each function that takes a system and a phrase raises this first."""
        self.raises(BadPhrase, word, check_phrase, system, phrase)
        for call in (void_looks, events_of, look_events, order_of, look_order, extremes, all_ways):
            self.raises(BadPhrase, word, call, system, phrase)
        self.raises(BadPhrase, word, evidence_of, system, phrase, None, None)
        self.raises(BadPhrase, word, clean_of, system, phrase, None)
        self.raises(BadPhrase, word, way_of, system, phrase, None)
        self.raises(BadPhrase, word, left_before, system, phrase, None)

    def test_fits(self):
        for text in ("@0(0>1)", "@0((0>2 -> @1(2>0)))", "@1(@0(@1(@0(!))))", "(@0(!) -~- @1((2>2 -> !)))"):
            self.assertIsNone(check_phrase(TWO, phrase_from(text)))

    def test_phrase(self):
        for value in (None, 0, "@0(0>1)", [], ODD, TWO, Look):
            self.refused("phrase", value)

    def test_depth(self):
        for levels in (2, 11, 12):
            self.assertEqual(depth(deep(levels)), levels)
            self.assertIsNone(check_phrase(TWO, deep(levels)))
        self.refused("depth", deep(13))
        self.refused("depth", deep(40))

    def test_many_events(self):
        ten = Ask(0, in_turn(*[beside(*[Look(0, 1)] * 5)] * 2))
        self.assertEqual(event_many(ten), 12)
        self.assertIsNone(check_phrase(TWO, ten))
        self.refused("many", Then(ten, Ask(0, Sign())))
        self.refused("many", Ask(0, Then(ten.asked, Look(0, 1))))
        six = in_turn(*[Ask(0, Sign())] * 6)
        self.assertIsNone(check_phrase(TWO, six))
        self.refused("many", in_turn(*[Ask(0, Sign())] * 7))

    def test_many_signs(self):
        ten = Ask(0, in_turn(*[Sign()] * 10))
        self.assertIsNone(check_phrase(TWO, ten))
        self.refused("many", Ask(0, beside(Branch(Sign(), Sign()), *[Sign()] * 9)))

    def test_place(self):
        self.refused("place", Ask(2, Sign()))
        self.refused("place", Ask(0, Then(Sign(), Ask(3, Sign()))))
        self.assertIsNone(check_phrase(FOUR, Ask(3, Sign())))

    def test_part(self):
        self.refused("part", Ask(0, Look(3, 0)))
        self.refused("part", Ask(0, Look(0, 3)))
        self.refused("part", Ask(0, Look(0, 7)))
        self.assertIsNone(check_phrase(TWO, Ask(0, Look(0, 2))))

    def test_judge(self):
        self.refused("judge", Sign())
        self.refused("judge", Look(0, 1))
        self.refused("judge", Then(Ask(0, Look(0, 1)), Sign()))
        self.refused("judge", Branch(Look(0, 1), Ask(0, Sign())))

    def test_home(self):
        self.refused("home", Ask(1, Look(0, 2)))
        self.refused("home", Ask(0, Look(2, 0)))
        self.refused("home", Ask(0, Then(Look(0, 1), Ask(1, Look(1, 0)))))
        self.refused("home", Ask(1, Ask(0, Look(2, 0))))
        self.assertIsNone(check_phrase(TWO, Ask(1, Look(2, 0))))

    def test_first_word_is_told(self):
        deep_one = Sign()
        for _ in range(12):
            deep_one = Then(deep_one, Sign())
        pieces = [("depth", deep_one), ("many", in_turn(*[Ask(0, Sign())] * 7)), ("place", Ask(2, Sign())),
                  ("part", Ask(0, Look(5, 0))), ("judge", Look(0, 1)), ("home", Ask(0, Look(2, 0)))]
        for first in range(6):
            for second in range(first + 1, 6):
                for both in (Then(pieces[first][1], pieces[second][1]), Branch(pieces[second][1], pieces[first][1])):
                    word = pieces[first][0]
                    if depth(both) > 12:
                        word = "depth"
                    elif event_many(both) > 12:
                        word = "many"
                    self.refused(word, both)
        # A wrong part is told ahead of a leaf at the judge, wherever the two stand.
        self.refused("part", Look(7, 7))
        self.refused("judge", Then(Ask(0, Look(2, 0)), Sign()))

    def test_one_object_at_several_places(self):
        look = Look(0, 1)
        self.refused("home", Then(Ask(0, look), Ask(1, look)))


class Standing(Case):

    def test_stands_at(self):
        self.assertEqual(stands_at(Look(0, 1)), (-1,))
        self.assertEqual(stands_at(Ask(3, Ask(1, Sign()))), (1,))
        self.assertEqual(stands_at(phrase_from("(@1((0>1 -> @2(!))) -;- !)")), (1, 2, -1))
        chance = seeded(25)
        for _ in range(100):
            phrase = some_phrase(chance, 6)
            self.assertEqual(stands_at(phrase), tuple(places_of(phrase)))
            self.assertEqual(len(stands_at(phrase)), len(phrase.leaves()))

    def test_event_many(self):
        for text, many in (("!", 0), ("0>1", 1), ("@0(!)", 2), ("@0((0>1 -> @1(2>3)))", 6), ("(! -> 0>0)", 1)):
            self.assertEqual(event_many(phrase_from(text)), many)
        self.assertEqual(event_many(in_turn(*[Look(0, 1)] * 60)), 60)

    def test_void_looks(self):
        phrase = phrase_from("@0(((0>1 -> 1>0) +~+ (! -> (1>1 -> 1>2))))")
        self.assertEqual(void_looks(TWO, phrase), (1, 2))
        self.assertEqual(void_looks(TWO, phrase_from("@0(0>1)")), ())
        self.assertEqual(void_looks(TWO, phrase_from("@0(!)")), ())


if __name__ == "__main__":
    unittest.main()
