"""Point 121: keys that are out, places of events."""

import unittest

from deeplooks.errors import BadPhrase, BadRow, BadStep
from deeplooks.keys import keys_out, place_of_event
from deeplooks.phrases import Look
from deeplooks.phrasetexts import phrase_from
from deeplooks.runs import Run
from deeplooks.systems import System
from deeplooks.ways import all_ways
from tests.fitting import fitting_phrases
from tests.helpers import FOUR, NO_INTEGERS, Case, seeded
from tests.slowchanging import some_form, some_four
from tests.test_phrases import NO_PHRASES


class Keys(Case):

    def test_once_out_it_stays_out(self):
        system = System(2, [0, 0, 1], [[], [], []], [1, 2])
        run = Run([[0], [1, 2], [2], []], [[0], [2], []])
        self.assertEqual([keys_out(system, run, i) for i in range(4)], [(), (0, 1), (0, 1), (0, 1)])
        # The moments of a gap count, not the states alone.
        self.assertEqual(keys_out(system, Run([[1, 2]], []), 0), (0, 1))

    def test_drawn_runs(self):
        chance = seeded(170)
        for _ in range(100):
            system, length = some_four(chance), chance.randrange(9)
            run = some_form(chance, range(8), length)
            for i in range(length + 1):
                bad = {part for held in run.moments[:i + 1] for part in held}
                self.assertEqual(keys_out(system, run, i), tuple(q for q in range(4) if system.managers[q] in bad))

    def test_errors(self):
        run = Run.blank(3)
        for value in NO_INTEGERS + [-1, 4]:
            self.raises(BadRow, value, keys_out, FOUR, run, value)
        self.assertEqual(keys_out(FOUR, run, 3), ())


class Places(Case):

    def test_places_of_steps(self):
        for phrase in fitting_phrases(171, 60):
            for way in [way for ways in all_ways(FOUR, phrase) for way in ways]:
                for event, place, _ in way:
                    self.assertEqual(place_of_event(FOUR, phrase, event), place)

    def test_each_kind(self):
        phrase = phrase_from("(@1((2>0 -> @0(!))) -> @3(!))")
        self.assertEqual([place_of_event(FOUR, phrase, e) for e in range(7)], [-1, 1, 1, 0, 1, -1, 3])

    def test_errors(self):
        phrase = phrase_from("@0(0>1)")
        for value in NO_PHRASES + [Look(0, 1)]:
            word = "judge" if isinstance(value, Look) else "phrase"
            self.raises(BadPhrase, word, place_of_event, FOUR, value, None)
        for value in NO_INTEGERS + [-1, 3, 99]:
            self.raises(BadStep, "event", place_of_event, FOUR, phrase, value)


if __name__ == "__main__":
    unittest.main()
