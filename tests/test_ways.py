"""Points 67 and 68: ways of copies, rounds, what a copy has left."""

import unittest

from deeplooks.errors import BadPhrase, NotThere
from deeplooks.events import events_of, order_of
from deeplooks.phrases import look_many
from deeplooks.phrasetexts import phrase_from
from deeplooks.ways import all_ways, left_before, round_of, way_of
from deeplooks.worth import clean_of, copies_of
from tests.helpers import FOUR, NO_LISTS, ODD, Case
from tests.slowevidence import Writer, words_of
from tests.test_evidence import all_paths
from tests.test_worth import many_phrases

PHRASE = phrase_from("@0((0>1 -> @1((2>3 -> !))))")


class Ways(Case):

    def test_way(self):
        self.assertEqual(way_of(FOUR, PHRASE, ["in"]), ((3, 1, ()), (4, 1, ((0, 1),)), (5, 0, ((0, 1),))))
        phrase = phrase_from("@0(((0>1 -> !) -> @1((! -> (! +~- @2(@2(4>0)))))))")
        sent = ((1, 0, ()), (2, 0, ((0, 0),)))
        signs = ((0, 0), (1, 1), (2, 1))
        self.assertEqual(way_of(FOUR, phrase, ("left", "in", "in", "in")), sent + ((8, 1, signs), (9, 0, signs)))
        self.assertEqual(way_of(FOUR, phrase, ("right",)), ((5, 2, ()), (6, 2, ()), (7, 2, ()), (8, 1, ()), (9, 0, ())))

    def test_against_what_is_written(self):
        for phrase in many_phrases():
            piece = Writer([True] * look_many(phrase)).write(phrase, -1, ["nonce", 0])
            told = words_of(piece)
            ways = all_ways(FOUR, phrase)
            self.assertIs(type(ways), tuple)
            self.assertEqual(len(ways), look_many(phrase))
            for look, copies in enumerate(copies_of(phrase)):
                self.assertEqual(len(ways[look]), len(copies))
                self.assertEqual(ways[look], tuple(steps for _, number, _, steps in told if number == look))
                for path, way in zip(copies, ways[look]):
                    self.assertEqual(way_of(FOUR, phrase, path), way)
                    self.assertEqual(way_of(FOUR, phrase, list(path)), way)
                    self.check(phrase, look, way, left_before(FOUR, phrase, path))

    def check(self, phrase, look, way, left):
        """What points 67 and 68 say of each way."""
        events = events_of(FOUR, phrase)
        order = order_of(FOUR, phrase)
        self.assertEqual(len([event for event in events[:way[0][0]] if event[0] == "look"]), look)
        self.assertEqual(events[way[0][0]][0], "look")
        for number, step in enumerate(way):
            event, place, signs = step
            self.assertIs(type(step), tuple)
            self.assertIs(type(signs), tuple)
            self.assertEqual(place, events[event][1])
            self.assertEqual(round_of(step), tuple(sorted({sign[1] for sign in signs})))
            if number:
                self.assertIn(events[event][0], ("ask", "answer"))
                self.assertTrue(order.before(way[number - 1][0], event))
                earlier = way[number - 1][2]
                self.assertEqual(signs[:len(earlier)], earlier)
            right = {step[1] for step in way[1:number] if step[1] != -1}
            self.assertEqual(left[number], tuple(sorted(right)))
        self.assertEqual(len(left), len(way))
        self.assertEqual(way[0][2], ())

    def test_left_before(self):
        self.assertEqual(left_before(FOUR, PHRASE, ("in", "in")), ((), (), (0,), (0, 1)))
        asked_by_judge = phrase_from("(@0(0>1) -> @1(!))")
        way = way_of(FOUR, asked_by_judge, ["in"])
        self.assertEqual([step[1] for step in way], [0, 0, -1, 1])
        self.assertEqual(left_before(FOUR, asked_by_judge, ["in"]), ((), (), (0,), (0,)))

    def test_round_of(self):
        self.assertEqual(round_of((3, -1, ())), ())
        self.assertEqual(round_of((3, -1, ((0, 2), (4, 1), (5, 2)))), (1, 2))

    def test_no_copy(self):
        wrong = [(), ["left"], ["in", "in", "in"], [0], [None], [["in"]], [ODD], "in", ["up"]]
        for value in NO_LISTS + wrong:
            self.raises(NotThere, "path", way_of, FOUR, PHRASE, value)
            self.raises(NotThere, "path", left_before, FOUR, PHRASE, value)
        for call in (way_of, left_before):
            self.raises(BadPhrase, "judge", call, FOUR, phrase_from("0>1"), None)
        self.raises(BadPhrase, "phrase", all_ways, FOUR, None)

    def test_only_copies_have_ways(self):
        for phrase in list(many_phrases())[:80]:
            copies = [path for found in copies_of(phrase) for path in found]
            for path, _ in all_paths(clean_of(FOUR, phrase, 0)):
                if path not in copies:
                    self.raises(NotThere, "path", way_of, FOUR, phrase, path)

    def test_a_lost_look_has_no_way(self):
        phrase = phrase_from("@0((0>1 -> (! -;- 1>0)))")
        self.assertEqual(all_ways(FOUR, phrase)[0], ())
        self.assertEqual(all_ways(FOUR, phrase_from("@0(!)")), ())


if __name__ == "__main__":
    unittest.main()
