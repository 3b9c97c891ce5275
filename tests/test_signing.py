"""Points 136 and 138 to 140: what phrases with other signs keep, and the rounds with full signing."""

import unittest

from deeplooks.changing import change_steps, changeable, unread
from deeplooks.checks import event_many
from deeplooks.errors import BadPhrase, NotThere
from deeplooks.leavings import bare, full_signing, leavings, signed_at, without_signs
from deeplooks.phrases import Look, Sign, sign_many
from deeplooks.phrasetexts import phrase_from, phrase_text
from deeplooks.rows import extremes
from deeplooks.signing import full_round, more_kept
from deeplooks.systems import System
from deeplooks.ways import all_ways, left_before, round_of, way_of
from deeplooks.worth import copies_of
from tests.fitting import fits, fitting_phrases
from tests.helpers import FOUR, NO_LISTS, ODD, Case, seeded, some_foe
from tests.slowchanging import some_form, some_four, some_row
from tests.slowsigns import Copies, all_runs, changed_in
from tests.slowstarts import drawn_run
from tests.test_leavings import few_copies, nested, put_in, signable
from tests.test_phrases import NO_PHRASES

TWO = System(2, [0, 0, 1, 1], [[], [], [], []], [0, 2])
PLAIN = ["@0(0>1)", "@0(@1(2>3))", "@0((0>1 -> @1(2>3)))", "(@0(0>1) -> @1(2>3))", "(@0(0>1) -> @0(@1(2>3)))",
         "@1((@0(0>1) -> 2>3))", "@0(@0(0>1))", "@0(@1(@0(0>1)))", "@0((0>1 +~+ @1(2>3)))", "(@0(0>1) +;- @1(2>3))",
         "@0((0>1 -> (1>0 -;- @1(2>3))))"]


def signed_phrases(plain):
    """The phrase signed at each set of its leavings, and with further signs put in at other spots."""
    spots = leavings(TWO, plain)
    for chosen in range(1 << len(spots)):
        yield signed_at(TWO, plain, [spot for k, spot in enumerate(spots) if chosen >> k & 1])
    chance = seeded(len(spots))
    for _ in range(5):
        other = plain
        for _ in range(3):
            other = put_in(chance, other, lambda place: Sign())
        yield other


class MoreKept(Case):

    def test_all_runs_of_two_managers(self):
        told = {}
        chance = seeded(300)
        for text in PLAIN:
            plain = phrase_from(text)
            row = extremes(TWO, plain)[0]
            runs = list(all_runs([0, 2], len(row))) if len(row) <= 4 else [
                some_form(chance, [0, 2], len(row), chance.choice([0.2, 0.4, 0.7])) for _ in range(2500)]
            phrases = list(signed_phrases(plain))[:14]
            copies = [Copies(TWO, phrase, row) for phrase in phrases]
            changed = [[set(one.changed(run)) for run in runs] for one in copies]
            for one, found in zip(phrases, changed):
                for other, others in zip(phrases, changed):
                    right = all(a <= b for a, b in zip(found, others))
                    told[right] = told.get(right, 0) + 1
                    self.assertIs(more_kept(TWO, one, other), right, (phrase_text(one), phrase_text(other)))
        self.assertGreater(min(told.values()), 300)

    def test_drawn_phrases_and_runs(self):
        chance = seeded(301)
        told = {}
        for phrase in signable(302, 50):
            system = some_four(chance)
            spots = leavings(system, phrase)
            one = signed_at(system, phrase, [e for e in spots if chance.random() < 0.7])
            other = signed_at(system, phrase, [e for e in spots if chance.random() < 0.4])
            full = full_signing(system, phrase)
            for better, worse in ((one, other), (other, one), (one, phrase), (phrase, other), (full, phrase), (full, one)):
                kept = more_kept(system, better, worse)
                told[kept] = told.get(kept, 0) + 1
                if better is full:
                    self.assertIs(kept, True)
                row = some_row(chance, system, phrase)
                found = False
                for _ in range(8):
                    run = some_form(chance, sorted(set(system.managers)), len(row), chance.choice([0.1, 0.3, 0.5]))
                    one_changed, other_changed = changed_in(system, better, row, run), changed_in(system, worse, row, run)
                    found = found or not set(one_changed) <= set(other_changed)
                if found:
                    self.assertIs(kept, False)
        self.assertGreater(min(told.values()), 20)

    def test_signing_at_more_spots(self):
        chance = seeded(303)
        for phrase in signable(304, 40):
            spots = leavings(FOUR, phrase)
            more = [e for e in spots if chance.random() < 0.7]
            less = [e for e in more if chance.random() < 0.6]
            one, other = signed_at(FOUR, phrase, more), signed_at(FOUR, phrase, less)
            self.assertIs(more_kept(FOUR, one, other), True)
            self.assertIs(more_kept(FOUR, one, one), True)
            self.assertIs(more_kept(FOUR, one, without_signs(FOUR, phrase)), True)

    def test_a_sign_that_is_put_in_keeps_no_less(self):
        chance = seeded(305)
        tried = 0
        for phrase in fitting_phrases(306, 150, 9):
            other = put_in(chance, phrase, lambda place: Sign())
            if fits(other) and few_copies(phrase) and not bare(phrase):
                tried += 1
                self.assertEqual(sign_many(other), sign_many(phrase) + 1)
                self.assertIs(more_kept(FOUR, other, phrase), True)
        self.assertGreater(tried, 50)

    def test_runs_of_drawn_foes(self):
        chance = seeded(299)
        counts = {}
        for phrase in signable(298, 40):
            system, foe = some_four(chance), some_foe(chance, 8, 7)
            other = put_in(chance, phrase, lambda place: Sign())
            full = full_signing(system, phrase)
            row = some_row(chance, system, phrase)
            for _ in range(6):
                run = drawn_run(chance, foe, len(row))
                for look, paths in enumerate(copies_of(phrase)):
                    for number, path in enumerate(paths):
                        steps = change_steps(system, phrase, row, run, path)
                        full_steps = change_steps(system, full, row, run, copies_of(full)[look][number])
                        told = changeable(system, phrase, row, run, path)
                        self.assertTrue(told or not full_steps)
                        self.assertEqual(full_steps, self.by_full_rounds(system, phrase, row, run, path))
                        counts[bool(steps), bool(full_steps)] = True
                        if fits(other):
                            changed = changeable(system, other, row, run, copies_of(other)[look][number])
                            self.assertTrue(told or not changed)
                if fits(other) and unread(system, other, row, run):
                    self.assertIs(unread(system, phrase, row, run), True)
        self.assertEqual(len(counts), 3)

    def by_full_rounds(self, system, phrase, row, run, path):
        """The steps at which the copy is changeable with full signing, by its rounds there."""
        way, found = way_of(system, phrase, path), []
        for k, places in enumerate(full_round(system, phrase, path)):
            event, place, _ = way[k]
            i = row.index(event)
            managed = place != -1 and system.managers[place] in run.states[i]
            if managed and all(any(system.managers[at] in run.moments[gap] for gap in range(i + 1)) for at in places):
                found.append(k)
        return tuple(found)

    def test_errors_in_their_order(self):
        right, wrong = phrase_from("@0((0>1 -> !))"), phrase_from("@0(!)")
        for value in NO_PHRASES + [Look(0, 1)]:
            word = "judge" if isinstance(value, Look) else "phrase"
            self.raises(BadPhrase, word, more_kept, FOUR, value, None)
            self.raises(BadPhrase, word, more_kept, FOUR, wrong, value)
            self.raises(BadPhrase, word, full_round, FOUR, value, None)
        self.raises(BadPhrase, "bare", more_kept, FOUR, wrong, right)
        self.raises(BadPhrase, "bare", more_kept, FOUR, right, wrong)
        self.raises(BadPhrase, "bare", more_kept, FOUR, wrong, wrong)
        for text in ["@0(1>0)", "@0(@0(0>1))", "(@0(0>1) -> @0(0>1))", "@0((0>1 -> 0>1))"]:
            self.raises(BadPhrase, "other", more_kept, FOUR, right, phrase_from(text))
        marked = phrase_from("@0((0>1 +;- 1>0))")
        self.raises(BadPhrase, "other", more_kept, FOUR, marked, phrase_from("@0((0>1 +~- 1>0))"))
        self.assertIs(more_kept(FOUR, right, phrase_from("@0(0>1)")), True)
        self.assertIs(more_kept(FOUR, phrase_from("@0(0>1)"), right), True)


class FullRound(Case):

    def test_rounds_of_the_phrase_with_full_signing(self):
        for phrase in signable(307, 50):
            full = full_signing(FOUR, phrase)
            for look, paths in enumerate(copies_of(phrase)):
                for number, path in enumerate(paths):
                    way = all_ways(FOUR, full)[look][number]
                    self.assertEqual(full_round(FOUR, phrase, list(path)), tuple(round_of(step) for step in way))

    def test_copies_have_the_same_way_but_for_signs(self):
        for phrase in signable(308, 30):
            for other in (full_signing(FOUR, phrase), without_signs(FOUR, phrase)):
                for ways, others in zip(all_ways(FOUR, phrase), all_ways(FOUR, other)):
                    bare_ways = [[step[:2] for step in way] for way in ways]
                    self.assertEqual(bare_ways, [[step[:2] for step in way] for way in others])

    def test_too_deep_to_be_signed(self):
        phrase = nested(5, Look(0, 1))
        self.raises(BadPhrase, "depth", full_signing, FOUR, phrase)
        self.assertEqual(full_round(FOUR, phrase, ()), ((), (0,), (0,), (0,), (0,), (0,)))
        left = left_before(FOUR, phrase, ())
        self.assertEqual(left, ((), (), (0,), (0,), (0,), (0,)))

    def test_twelve_events_with_full_signing(self):
        phrase = phrase_from("(@0((0>1 -> @1((2>3 -> @2(4>5))))) -> @3(6>7))")
        path = ("in", "in", "in")
        self.assertEqual(event_many(phrase), 12)
        right = ((), (0,), (0, 1), (0, 1, 2), (0, 1, 2), (0, 1, 2), (0, 1, 2), (0, 1, 2, 3))
        self.assertEqual(full_round(FOUR, phrase, path), right)
        full = full_signing(FOUR, phrase)
        chance = seeded(309)
        row = extremes(FOUR, full)[0]
        for _ in range(60):
            run = some_form(chance, [0, 2, 4, 6], len(row), 0.5)
            for look, paths in enumerate(copies_of(full)):
                self.assertEqual(changeable(FOUR, full, row, run, paths[0]), (look, 0) in changed_in(FOUR, full, row, run))

    def test_paths_that_are_no_copies(self):
        phrase = phrase_from("@0((0>1 -> !))")
        for path in NO_LISTS + [(), ("in", "in"), ("left",), ("in", None), (0,), [ODD]]:
            self.raises(NotThere, "path", full_round, FOUR, phrase, path)
        self.raises(BadPhrase, "bare", full_round, FOUR, phrase_from("@0(!)"), ("left",))
        self.assertEqual(full_round(FOUR, phrase, ["in"]), ((), (0,)))


if __name__ == "__main__":
    unittest.main()
