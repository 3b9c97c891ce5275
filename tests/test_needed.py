"""Point 141: sets of spots that copies ask for, spots that are enough, the fewest signs."""

import unittest

from deeplooks.changing import changeable
from deeplooks.errors import BadPhrase, BadSet
from deeplooks.events import events_of, order_of
from deeplooks.foes import Foe
from deeplooks.leavings import bare, full_signing, leavings, signed_at, without_signs
from deeplooks.needed import enough, fewest_signs, least_signings, wanted, weak_case
from deeplooks.phrases import Look, depth
from deeplooks.phrasetexts import phrase_from
from deeplooks.rows import extremes, is_row
from deeplooks.runs import is_run
from deeplooks.signing import more_kept
from deeplooks.ways import all_ways
from deeplooks.worth import copies_of
from tests.fitting import fitting_phrases
from tests.helpers import FOUR, NO_LISTS, ODD, Case, all_subsets, seeded
from tests.slowchanging import some_form, some_four, some_row
from tests.slowsigns import Copies, all_runs, changed_in
from tests.test_leavings import few_copies, nested, signable
from tests.test_phrases import NO_PHRASES
from tests.test_signing import PLAIN, TWO

NINE = "@0((0>1 -> @1(@2(@3(@0(1>0))))))"


def asked(system, phrase):
    """All that copies ask for: look, number, k, r and the set."""
    events = events_of(system, phrase)
    for look, ways in enumerate(all_ways(system, phrase)):
        for number, way in enumerate(ways):
            for k in range(1, len(way)):
                place = events[way[k][0]][1]
                left = [(step[0], events[step[0]][1]) for step in way[1:k]]
                for r in range(system.places):
                    spots = {event for event, at in left if at == r}
                    if place != -1 and r != place and spots:
                        yield look, number, k, r, spots


def least(sets):
    """The least ones of a list of sets, short first."""
    different = sorted({tuple(sorted(held)) for held in sets}, key=lambda held: (len(held), held))
    return [held for held in different if not any(set(other) < set(held) for other in different)]


def plain_phrases(seed, count):
    """Phrases that are not bare, with few copies, of any depth."""
    for phrase in fitting_phrases(seed, count):
        if not bare(phrase) and few_copies(phrase):
            yield phrase


class Needed(Case):

    def test_all_sets_of_leavings(self):
        told = {}
        for phrase in list(plain_phrases(310, 130)) + signable(311, 30) + [phrase_from(text) for text in PLAIN]:
            spots = leavings(FOUR, phrase)
            if len(spots) > 6:
                continue
            family = list(asked(FOUR, phrase))
            self.assertEqual(wanted(FOUR, phrase), least([entry[4] for entry in family]))
            full = [list(chosen) for chosen in all_subsets(spots)]
            good = []
            for chosen in full:
                lacks = [entry for entry in family if not entry[4] & set(chosen)]
                right = lacks[0][:4] if lacks else None
                told[right is None] = told.get(right is None, 0) + 1
                self.assertEqual(enough(FOUR, phrase, chosen[::-1]), right)
                if right is None:
                    good.append(chosen)
            self.assertEqual(least_signings(FOUR, phrase), least(good))
            self.assertEqual(fewest_signs(FOUR, phrase), least(good)[0])
            for held in least_signings(FOUR, phrase) + wanted(FOUR, phrase):
                self.is_tuple_set(held)
                self.assertLessEqual(len({events_of(FOUR, phrase)[e][1] for e in held}), len(held))
            for held in wanted(FOUR, phrase):
                self.assertEqual(len({events_of(FOUR, phrase)[e][1] for e in held}), 1)
            if all(len(held) == 1 for held in wanted(FOUR, phrase)):
                self.assertEqual(least_signings(FOUR, phrase), [tuple(sorted(held[0] for held in wanted(FOUR, phrase)))])
        self.assertGreater(min(told.values()), 200)

    def test_enough_by_all_runs_of_two_managers(self):
        told = {}
        chance = seeded(312)
        for text in PLAIN:
            plain = phrase_from(text)
            row = extremes(TWO, plain)[0]
            runs = list(all_runs([0, 2], len(row))) if len(row) <= 4 else [
                some_form(chance, [0, 2], len(row), chance.choice([0.2, 0.4, 0.7])) for _ in range(2000)]
            full = Copies(TWO, full_signing(TWO, plain), row)
            right = [set(full.changed(run)) for run in runs]
            for chosen in all_subsets(leavings(TWO, plain)):
                copies = Copies(TWO, signed_at(TWO, plain, chosen), row)
                same = all(set(copies.changed(run)) == found for run, found in zip(runs, right))
                told[same] = told.get(same, 0) + 1
                self.assertEqual(enough(TWO, plain, chosen) is None, same, (text, chosen))
        self.assertGreater(min(told.values()), 10)

    def test_enough_keeps_all_that_full_signing_keeps(self):
        chance = seeded(313)
        told = {}
        for phrase in signable(314, 50):
            system = some_four(chance)
            full = full_signing(system, phrase)
            for _ in range(4):
                spots = [e for e in leavings(system, phrase) if chance.random() < 0.8]
                right = more_kept(system, signed_at(system, phrase, spots), full)
                told[right] = told.get(right, 0) + 1
                self.assertIs(enough(system, phrase, spots) is None, right)
            signed = signed_at(system, phrase, fewest_signs(system, phrase))
            row = some_row(chance, system, phrase)
            for _ in range(5):
                run = some_form(chance, range(8), len(row), chance.choice([0.1, 0.3]))
                changed = set(changed_in(system, signed, row, run))
                self.assertEqual(changed, set(changed_in(system, full, row, run)))
                # What the phrase's own signs keep, these signs keep too.
                self.assertTrue(changed <= set(changed_in(system, phrase, row, run)))
        self.assertGreater(min(told.values()), 20)

    def test_weak_cases(self):
        chance = seeded(315)
        told = {}
        for phrase in signable(316, 70):
            system = some_four(chance)
            spots = [e for e in leavings(system, phrase) if chance.random() < 0.5]
            case = weak_case(system, phrase, spots)
            told[case is None] = told.get(case is None, 0) + 1
            self.assertEqual(case is None, enough(system, phrase, spots) is None)
            if case is None:
                continue
            foe, row, run, look, number = case
            self.assertIsInstance(foe, Foe)
            self.assertIs(type(row), tuple)
            self.assertTrue(is_row(order_of(system, phrase), row))
            self.assertEqual((foe.many, len(run)), (8, len(row)))
            self.assertIs(is_run(foe, run), True)
            path = copies_of(signed_at(system, phrase, spots))[look][number]
            self.assertIs(changeable(system, signed_at(system, phrase, spots), row, run, path), True)
            full = full_signing(system, phrase)
            self.assertIs(changeable(system, full, row, run, copies_of(full)[look][number]), False)
        self.assertGreater(min(told.values()), 15)

    def test_phrases_that_would_be_too_deep(self):
        deep = nested(5, Look(0, 1))
        self.assertEqual([wanted(FOUR, deep), least_signings(FOUR, deep), fewest_signs(FOUR, deep)], [[], [()], ()])
        self.assertIsNone(enough(FOUR, deep, []))
        self.assertIsNone(weak_case(FOUR, deep, ()))
        inner = phrase_from("@0((0>1 -> @1((2>3 -> @2((4>5 -> @3(6>7)))))))")
        self.raises(BadPhrase, "depth", full_signing, FOUR, inner)
        self.assertEqual(least_signings(FOUR, inner), [(2, 4, 6, 8, 9, 10)])
        self.assertEqual(fewest_signs(FOUR, inner), (2, 4, 6, 8, 9, 10))
        for spot in fewest_signs(FOUR, inner):
            spots = [e for e in fewest_signs(FOUR, inner) if e != spot]
            foe, row, run, look, number = weak_case(FOUR, inner, spots)
            self.assertEqual(enough(FOUR, inner, spots)[:2], (look, number))
            self.assertIs(is_run(foe, run), True)

    def test_nine_leavings(self):
        phrase = phrase_from(NINE)
        self.assertEqual([len(leavings(FOUR, phrase)), len(events_of(FOUR, phrase))], [9, 12])
        self.raises(BadPhrase, "depth", full_signing, FOUR, phrase)
        self.assertGreater(len(least_signings(FOUR, phrase)), 0)
        for held in least_signings(FOUR, phrase):
            self.assertIsNone(enough(FOUR, phrase, held))
            for spot in held:
                self.assertIsNotNone(enough(FOUR, phrase, [e for e in held if e != spot]))

    def test_signs_of_the_phrase_count_for_nothing(self):
        for phrase in signable(317, 30):
            plain = without_signs(FOUR, phrase)
            self.assertEqual(wanted(FOUR, phrase), wanted(FOUR, plain))
            self.assertEqual(least_signings(FOUR, phrase), least_signings(FOUR, full_signing(FOUR, phrase)))
            self.assertEqual(enough(FOUR, phrase, []), enough(FOUR, plain, ()))

    def test_no_copy_asks(self):
        for text in ["@0(0>1)", "(@0(0>1) -> @0(0>1))", "@0((0>1 +;- 1>0))", "@0((0>1 -> (1>0 -;- 0>0)))"]:
            phrase = phrase_from(text)
            self.assertEqual([wanted(FOUR, phrase), least_signings(FOUR, phrase)], [[], [()]])
            self.assertEqual(fewest_signs(FOUR, phrase), ())
            self.assertIsNone(enough(FOUR, phrase, []))

    def test_errors_in_their_order(self):
        for value in NO_PHRASES + [Look(0, 1)]:
            word = "judge" if isinstance(value, Look) else "phrase"
            for call in (wanted, least_signings, fewest_signs):
                self.raises(BadPhrase, word, call, FOUR, value)
            self.raises(BadPhrase, word, enough, FOUR, value, None)
            self.raises(BadPhrase, word, weak_case, FOUR, value, None)
        for text in ["@0(!)", "@0((0>1 +;+ !))", "@0((0>1 -> @1(!)))"]:
            for call in (wanted, least_signings, fewest_signs):
                self.raises(BadPhrase, "bare", call, FOUR, phrase_from(text))
            self.raises(BadPhrase, "bare", enough, FOUR, phrase_from(text), None)
            self.raises(BadPhrase, "bare", weak_case, FOUR, phrase_from(text), None)
        phrase = phrase_from("@0((0>1 -> @1((2>3 -> !))))")
        for value in NO_LISTS + [[0], [1], [2, 2], [3], [6], [-1], [True], [None], [ODD], [2, 4, 5, 7]]:
            self.raises(BadSet, "spots", enough, FOUR, phrase, value)
            self.raises(BadSet, "spots", weak_case, FOUR, phrase, value)
        spots = [5, 2]
        enough(FOUR, phrase, spots)
        weak_case(FOUR, phrase, spots)
        self.assertEqual(spots, [5, 2])

    def test_lists_are_new(self):
        phrase = phrase_from("(@0(0>1) -> @0(@1(2>3)))")
        wanted(FOUR, phrase).clear()
        least_signings(FOUR, phrase).clear()
        self.assertEqual(wanted(FOUR, phrase), [(6,), (2, 4)])
        self.assertEqual(least_signings(FOUR, phrase), [(2, 6), (4, 6)])
        self.assertEqual(depth(phrase), 4)


if __name__ == "__main__":
    unittest.main()
