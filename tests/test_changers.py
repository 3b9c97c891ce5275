"""Point 142: sets of places that can change all copies of a look's word, and runs in which they do."""

import unittest

from deeplooks.changers import changer_run, changers
from deeplooks.changing import bad_looks, changeable
from deeplooks.errors import BadNumber, BadPhrase, BadSet
from deeplooks.events import events_of, look_events, order_of
from deeplooks.foes import Foe
from deeplooks.leavings import full_signing
from deeplooks.phrases import Look
from deeplooks.phrasetexts import phrase_from
from deeplooks.rows import is_row, rows_of
from deeplooks.runs import is_run
from deeplooks.systems import System
from deeplooks.ways import all_ways
from deeplooks.worth import copies_of, lost_looks
from tests.helpers import FOUR, NO_INTEGERS, NO_LISTS, Case, all_subsets, seeded
from tests.slowchanging import phrases_to_change, some_four
from tests.slowsigns import Copies, all_runs, free_for
from tests.test_leavings import signable
from tests.test_needed import least
from tests.test_phrases import NO_PHRASES

PHRASES = ["@0((0>1 -> @1((2>3 -> !))))", "@0((0>1 -> !))", "@0(@1((2>0 -> !)))", "@0((0>2 -> (1>0 -;- !)))",
           "(@0(0>3) -> @1(!))", "@0((0>2 +~+ !))", "@1((@0((0>2 -> !)) -> !))"]


def can_change(system, phrase, look, places):
    """True if the places can change the look, by point 142."""
    events = events_of(system, phrase)
    target = events[look_events(system, phrase)[look]][3]
    own = {place for place in range(system.places) if system.managers[place] == target}
    free = set(places) | own
    return all(any(place != -1 and {place} | {at for _, at in signs} <= free for _, place, signs in way)
               for way in all_ways(system, phrase)[look])


def looks_and_phrases(seed, count):
    """Systems with the homes of FOUR, phrases, and their look numbers."""
    chance = seeded(seed)
    for phrase in phrases_to_change(seed + 1, count):
        system = some_four(chance)
        for look in range(len(look_events(system, phrase))):
            yield system, phrase, look


class Changers(Case):

    def test_all_sets_of_places(self):
        sizes = {}
        for system, phrase, look in looks_and_phrases(320, 120):
            good = [places for places in all_subsets(range(4)) if can_change(system, phrase, look, places)]
            found = changers(system, phrase, look)
            self.assertIs(type(found), list)
            self.assertEqual(found, least(good))
            for places in found:
                sizes[len(places)] = sizes.get(len(places), 0) + 1
            home = system.homes[events_of(system, phrase)[look_events(system, phrase)[look]][2]]
            self.assertIn((home,), good)
            if look in lost_looks(phrase):
                self.assertEqual(found, [()])
        self.assertGreater(min(sizes.get(k, 0) for k in (0, 1)), 20)
        # Two copies that go by different places ask for both, or for the place that both leave.
        phrase = phrase_from("@0((0>1 -> (@1((! -> 2>3)) +~+ @2((! -> 4>5)))))")
        self.assertEqual(len(copies_of(phrase)[0]), 2)
        self.assertEqual(changers(FOUR, phrase, 0), [(0,), (1, 2)])
        foe, row, run = changer_run(FOUR, phrase, 0, (2, 1))
        self.assertEqual(foe, Foe(8, [1, 2, 4], [((), 1), ((), 2), ((), 4)]))
        self.assertEqual(set(Copies(FOUR, phrase, row).changed(run)) & {(0, 0), (0, 1)}, {(0, 0), (0, 1)})

    def test_runs_that_are_told(self):
        chance = seeded(322)
        told = {}
        for system, phrase, look in looks_and_phrases(323, 60):
            _, _, measurer, target = events_of(system, phrase)[look_events(system, phrase)[look]]
            places = [p for p in range(4) if chance.random() < 0.4]
            chance.shuffle(places)
            case = changer_run(system, phrase, look, places)
            void = target in system.needs[measurer]
            right = can_change(system, phrase, look, places) and not void
            told[right] = told.get(right, 0) + 1
            self.assertEqual(case is not None, right)
            if case is None:
                continue
            foe, row, run = case
            parts = sorted({target} | {system.managers[place] for place in places})
            self.assertEqual(foe, Foe(8, parts, [((), part) for part in parts]))
            self.assertIs(type(row), tuple)
            self.assertTrue(is_row(order_of(system, phrase), row))
            self.assertIs(is_run(foe, run), True)
            self.assertIn(look, bad_looks(system, phrase, row, run))
            for path in copies_of(phrase)[look]:
                self.assertIs(changeable(system, phrase, row, run, path), True)
        self.assertGreater(min(told.values()), 20)

    def test_by_all_runs_on_each_row(self):
        chance = seeded(324)
        told = {}
        for text in PHRASES:
            phrase = phrase_from(text)
            for _ in range(4):
                needs = [[p for p in range(4) if chance.random() < 0.2] for _ in range(4)]
                system = System(2, [0, 0, 1, 1], needs, [chance.choice([0, 1]), chance.choice([2, 3])])
                for look in range(len(look_events(system, phrase))):
                    for places in all_subsets(range(2)):
                        self.check_rows(system, phrase, look, places, told)
        self.assertGreater(min(told.values()), 20)

    def check_rows(self, system, phrase, look, places, told):
        """On each row there is a run of the foe that changes all copies, or on none."""
        event = look_events(system, phrase)[look]
        _, _, measurer, target = events_of(system, phrase)[event]
        parts = sorted({target} | {system.managers[place] for place in places})
        if target in system.needs[measurer] or len(parts) > 2:
            return
        right = can_change(system, phrase, look, places)
        told[right] = told.get(right, 0) + 1
        numbers = [(look, k) for k in range(len(copies_of(phrase)[look]))]
        for row in rows_of(order_of(system, phrase)):
            at, copies = row.index(event), Copies(system, phrase, row)
            found = False
            for run in all_runs(parts, len(row)):
                bad = target in run.states[at] and not set(system.needs[measurer]) & set(run.states[at])
                if bad and set(numbers) <= set(copies.changed(run)):
                    found = True
                    break
            self.assertIs(found, right, (places, look))
        self.assertIs(is_run(free_for(4, parts), run), True)

    def test_full_signing(self):
        tried = 0
        for phrase in signable(326, 60):
            full = full_signing(FOUR, phrase)
            for look, event in enumerate(look_events(FOUR, phrase)):
                _, place, _, target = events_of(FOUR, phrase)[event]
                if look not in lost_looks(phrase) and target not in FOUR.managers:
                    tried += 1
                    self.assertEqual(changers(FOUR, full, look), [(place,)])
        self.assertGreater(tried, 40)

    def test_a_target_that_manages_the_place(self):
        phrase = phrase_from("@0((1>0 -> @1((2>3 -> !))))")
        self.assertEqual(changers(FOUR, phrase, 0), [()])
        foe, row, run = changer_run(FOUR, phrase, 0, [])
        self.assertEqual(foe, Foe(8, [0], [((), 0)]))
        self.assertIs(changeable(FOUR, phrase, row, run, copies_of(phrase)[0][0]), True)
        # What the measurer needs may be the manager: then the word is changed behind the look.
        system = System(2, [0, 0, 1, 1], [[], [0], [], []], [0, 2])
        phrase = phrase_from("@0(1>3)")
        foe, row, run = changer_run(system, phrase, 0, (0,))
        self.assertEqual(bad_looks(system, phrase, row, run), (0,))
        self.assertIs(changeable(system, phrase, row, run, ()), True)
        self.assertIsNone(changer_run(system, phrase, 0, ()))
        self.assertIsNone(changer_run(system, phrase_from("@0(1>0)"), 0, (0, 1)))
        self.assertEqual(changers(system, phrase_from("@0(1>0)"), 0), [()])

    def test_lost_looks(self):
        phrase = phrase_from("@0((0>1 -> (1>0 -;- !)))")
        self.assertEqual(lost_looks(phrase), (0,))
        foe, row, run = changer_run(FOUR, phrase, 0, ())
        self.assertEqual((foe, bad_looks(FOUR, phrase, row, run)), (Foe(8, [1], [((), 1)]), (0,)))

    def test_errors_in_their_order(self):
        phrase = phrase_from("@0((0>1 -> @1((2>3 -> !))))")
        for value in NO_PHRASES + [Look(0, 1)]:
            word = "judge" if isinstance(value, Look) else "phrase"
            self.raises(BadPhrase, word, changers, FOUR, value, None)
            self.raises(BadPhrase, word, changer_run, FOUR, value, None, None)
        for value in NO_INTEGERS + [-1, 2]:
            self.raises(BadNumber, "look", changers, FOUR, phrase, value)
            self.raises(BadNumber, "look", changer_run, FOUR, phrase, value, None)
        self.raises(BadNumber, "look", changers, FOUR, phrase_from("@0(!)"), 0)
        for value in NO_LISTS + [[4], [-1], [0, 0], [True], [None]]:
            self.raises(BadSet, "places", changer_run, FOUR, phrase, 0, value)
        places = [1, 0]
        changer_run(FOUR, phrase, 0, places)
        self.assertEqual(places, [1, 0])
        changers(FOUR, phrase, 0).clear()
        self.assertEqual(changers(FOUR, phrase, 0), [(0,), (1,)])


if __name__ == "__main__":
    unittest.main()
