"""Points 46, 47 and 50: the events of a phrase, their order, the order on its looks."""

import unittest

from deeplooks.events import events_of, look_events, look_order, order_of
from deeplooks.orders import Order
from deeplooks.phrases import Ask, Branch, Look, Sign
from deeplooks.phrasetexts import phrase_from
from deeplooks.systems import System
from tests.fitting import fitting_phrases
from tests.helpers import FOUR, Case

ONE = System(1, [0, 0], [[], []], [0])


def slow_events(phrase, place, path):
    """The events with the paths of the phrases that they belong to, straight from point 46."""
    if isinstance(phrase, Sign):
        return []
    if isinstance(phrase, Look):
        return [(("look", place, phrase.measurer, phrase.target), path)]
    if isinstance(phrase, Ask):
        inner = slow_events(phrase.asked, phrase.place, path + ("asked",))
        return ([(("ask", place, phrase.place), path + ("ask",))] + inner
                + [(("answer", phrase.place, place), path + ("answer",))])
    found = []
    for number, part in enumerate(phrase.parts_of()):
        found = found + slow_events(part, place, path + (number,))
    return found


def slow_ahead(phrase, one, other):
    """True if the event at the one path is ahead of the one at the other path, by point 47."""
    step, told = one[0] if one else None, other[0] if other else None
    if step is None or told is None:
        return False
    if isinstance(phrase, Ask):
        if step == "asked" and told == "asked":
            return slow_ahead(phrase.asked, one[1:], other[1:])
        return step != told and (step == "ask" or told == "answer")
    if step == told:
        return slow_ahead(phrase.parts_of()[step], one[1:], other[1:])
    together = isinstance(phrase, Branch) and phrase.together
    return step < told and not together


class Events(Case):

    def test_numbers_from_the_left(self):
        phrase = phrase_from("(@0((0>1 -> !)) +~- @0(@0((! -;- 1>0))))")
        right = (("ask", -1, 0), ("look", 0, 0, 1), ("answer", 0, -1), ("ask", -1, 0), ("ask", 0, 0),
                 ("look", 0, 1, 0), ("answer", 0, 0), ("answer", 0, -1))
        self.assertEqual(events_of(ONE, phrase), right)
        self.assertEqual(look_events(ONE, phrase), (1, 5))

    def test_no_events(self):
        self.assertEqual(events_of(ONE, phrase_from("@0(!)")), (("ask", -1, 0), ("answer", 0, -1)))
        self.assertEqual(look_events(ONE, phrase_from("@0(!)")), ())
        self.assertEqual(order_of(ONE, phrase_from("@0(!)")), Order(2, [(0, 1)]))
        self.assertEqual(look_order(ONE, phrase_from("@0(!)")), Order(0, []))

    def test_order(self):
        phrase = phrase_from("@0(((0>1 +~+ 1>0) -> 0>0))")
        self.assertEqual(order_of(ONE, phrase), Order(5, [(0, 1), (0, 2), (1, 3), (2, 3), (3, 4)]))
        self.assertEqual(look_order(ONE, phrase), Order(3, [(0, 2), (1, 2)]))
        self.assertEqual(look_order(ONE, phrase_from("@0((0>1 -;- 1>0))")), Order(2, [(0, 1)]))
        self.assertEqual(look_order(ONE, phrase_from("@0((0>1 -~- 1>0))")), Order(2, []))

    def test_twelve_events(self):
        phrase = phrase_from("@0(" + "(0>1 +~+ " * 9 + "1>0" + ")" * 9 + ")")
        self.assertEqual(len(events_of(ONE, phrase)), 12)
        self.assertEqual(order_of(ONE, phrase).pairs_many, 21)
        self.assertEqual(look_order(ONE, phrase), Order(10, []))

    def test_against_the_words_of_the_points(self):
        for phrase in fitting_phrases(29, 250):
            told = slow_events(phrase, -1, ())
            self.assertEqual(events_of(FOUR, phrase), tuple(event for event, _ in told))
            many = len(told)
            pairs = tuple((e, f) for e in range(many) for f in range(many)
                          if slow_ahead(phrase, told[e][1], told[f][1]))
            order = order_of(FOUR, phrase)
            self.assertEqual((order.size, order.pairs), (many, pairs))
            looks = tuple(k for k, (event, _) in enumerate(told) if event[0] == "look")
            self.assertEqual(look_events(FOUR, phrase), looks)
            self.assertEqual(look_order(FOUR, phrase), order.kept(looks))

    def test_what_a_branch_hands_on_changes_nothing(self):
        for phrase in fitting_phrases(30, 60):
            right = order_of(FOUR, phrase)
            self.assertEqual(order_of(FOUR, handing_on(phrase)), right)


def handing_on(phrase):
    """The phrase with both parts of each branch handed the evidence."""
    if isinstance(phrase, Ask):
        return Ask(phrase.place, handing_on(phrase.asked))
    if not phrase.parts_of():
        return phrase
    left, right = [handing_on(part) for part in phrase.parts_of()]
    if isinstance(phrase, Branch):
        return Branch(left, right, together=phrase.together)
    return type(phrase)(left, right)


if __name__ == "__main__":
    unittest.main()
