"""Points 199 and 200: story sets, guilty lists, story lots, stories of phrases."""

import unittest

from deeplooks.blame import story
from deeplooks.errors import BadFoe, BadLine, BadPhrase, BadSet, TooMany
from deeplooks.events import look_order
from deeplooks.foes import Foe
from deeplooks.guilt import guilty_lists, phrase_story, story_lots, story_sets
from deeplooks.phrases import Ask, Look, beside, in_turn
from deeplooks.phrasetexts import phrase_from
from deeplooks.rows import count_rows
from deeplooks.runs import Run
from deeplooks.sets import meeting_sets
from deeplooks.systems import System
from tests.asked import wrong_pairs
from tests.helpers import NO_LISTS, Case, all_subsets, seeded, some_foe
from tests.slowblame import all_words, drawn_words, explaining, greatest, parts_of_form, wrong_words
from tests.slowopen import all_lots, is_above, line_of, look_rows, small_phrases, some_looks
from tests.slowruns import all_forms
from tests.slowsieve import Forms, one_place, run_of, small_foes, small_lines, small_systems, some_line
from tests.slowstarts import drawn_run
from tests.test_needed import least
from tests.test_phrases import NO_PHRASES


class Stories(Case):

    def check(self, system, foe, line, words, forms):
        """Story sets and guilty lists by all explaining runs."""
        right = explaining(system, line, words, forms)
        family = least([parts_of_form(form) for form in right])
        found = story_sets(system, foe, line, words)
        self.assertIs(type(found), list)
        self.assertEqual(found, family)
        every = all_subsets(range(system.many))
        meeting = [held for held in every if all(set(held) & parts_of_form(form) for form in right)]
        lists = guilty_lists(system, foe, line, words)
        self.assertEqual(lists, least(meeting) if right else [])
        kind = "nothing" if not right else "nobody" if not lists else "somebody"
        self.told[kind] = self.told.get(kind, 0) + 1
        if lists:
            self.assertEqual(meeting_sets(lists, tuple(range(system.many))), found)
            self.assertEqual(meeting_sets(found, tuple(range(system.many))), lists)
        for held in every if right else ():
            blamed = story(system, foe.less(held), line, words) is None
            self.assertIs(blamed, held in meeting)
        if found == [()]:
            blank = ((frozenset(),) * (len(line) + 1), (frozenset(),) * len(line))
            self.assertIn(blank, right)

    def test_two_parts(self):
        self.told = {}
        chance = seeded(490)
        for foe in small_foes():
            forms = Forms(foe)
            system = chance.choice(list(small_systems()))
            for line in chance.sample(list(small_lines(2)), 2):
                for words in all_words(line):
                    self.check(system, foe, line, list(words), forms.of(2))
        self.assertGreater(min(self.told.values()), 30)

    def test_three_parts(self):
        self.told = {}
        chance = seeded(491)
        for _ in range(30):
            system, foe = one_place(chance, 3), some_foe(chance, 3, 3)
            line = some_line(chance, 3, 2, 0.1)
            forms = list(all_forms(foe, 2))
            for words in all_words(line):
                self.check(system, foe, line, words, forms)
        self.assertGreater(self.told["somebody"], 10)

    def test_five_parts(self):
        chance = seeded(492)
        several = 0
        for _ in range(60):
            system, foe = one_place(chance, 5), some_foe(chance, 5, 6)
            line = some_line(chance, 5, chance.randrange(1, 8))
            words = drawn_words(chance, system, line, drawn_run(chance, foe, len(line)))
            found, lists = story_sets(system, foe, line, words), guilty_lists(system, foe, line, words)
            for held in all_subsets(range(5)):
                others = [part for part in range(5) if part not in held]
                told = story(system, foe.less(others), line, words) is not None
                self.assertIs(told, any(set(parts) <= set(held) for parts in found))
                if lists or found == [()]:
                    blamed = story(system, foe.less(held), line, words) is None
                    self.assertIs(blamed, any(set(parts) <= set(held) for parts in lists))
            several += len(found) > 1
        self.assertGreater(several, 5)

    def test_nothing_and_nobody(self):
        system, line = System(1, [0, 0, 0], [[], [0], []], [2]), [(0, 1), (1, 2)]
        nothing = Foe(3, [], [])
        self.assertEqual(story_sets(system, nothing, line, [False, True]), [])
        self.assertEqual(guilty_lists(system, nothing, line, [False, True]), [])
        foe = Foe(3, [0, 1, 2], [])
        self.assertEqual(story_sets(system, foe, line, [True, True]), [()])
        self.assertEqual(guilty_lists(system, foe, line, [True, True]), [])
        self.assertEqual(story_sets(system, foe, line, [False, True]), [(0,), (1,)])
        self.assertEqual(guilty_lists(system, foe, line, [False, True]), [(0, 1)])
        story_sets(system, foe, line, [False, True]).clear()
        guilty_lists(system, foe, line, [False, True]).clear()
        story_lots(system, line, [False, True]).clear()
        self.assertEqual(story_lots(system, line, [False, True]), [(0, 1, 0), (1, 0, 0)])


class StoryLots(Case):

    def test_two_parts_by_all_runs(self):
        chance = seeded(493)
        forms = {lot: Forms(Foe.of_lot(lot)) for lot in all_lots(2)}
        for system in small_systems():
            for line in chance.sample(list(small_lines(2)), 12) + list(small_lines(1)):
                for words in all_words(line):
                    lots = [lot for lot in all_lots(2) if explaining(system, line, words, forms[lot].of(len(line)))]
                    right = [lot for lot in lots if not any(other != lot and is_above(lot, other) for other in lots)]
                    self.assertEqual(story_lots(system, line, list(words)), right)

    def test_larger_ones(self):
        chance = seeded(494)
        sizes = {}
        for _ in range(40):
            many = chance.randrange(3, 6)
            system, line = one_place(chance, many), some_line(chance, many, chance.randrange(0, 7))
            words = [None if look is None else chance.random() < 0.6 for look in line]
            found = story_lots(system, line, words)
            self.assertEqual(found, sorted(found))
            for lot in all_lots(many):
                told = story(system, Foe.of_lot(lot), line, words) is not None
                self.assertIs(told, any(is_above(lot, low) for low in found))
            for lot in found:
                self.assertFalse(any(other != lot and is_above(lot, other) for other in found))
            sizes[min(len(found), 2)] = True
        self.assertGreater(len(sizes), 1)
        # A part that looks at itself can be said to be bad only by a bad one, and never is told honestly.
        system = System(1, [0, 0], [[], []], [0])
        self.assertEqual(story_lots(system, [(0, 0), (0, 0)], [True, False]), [(1, 0)])
        self.assertEqual(story_lots(system, [(0, 1), (0, 1)], [True, False]), [(0, 2), (1, 0)])


class PhraseStories(Case):

    def check(self, system, foe, phrase, words, forms):
        """The first look row on which some run explains the words."""
        right = None
        for row in look_rows(phrase):
            line = line_of(phrase, row)
            told = explaining(system, line, [words[k] for k in row], forms.of(len(row)))
            if right is None and told:
                right = (row, run_of(greatest(told, len(row))))
        found = phrase_story(system, foe, phrase, words)
        self.told[right is None] = self.told.get(right is None, 0) + 1
        self.assertEqual(found, right)

    def test_small_phrases(self):
        self.told = {}
        chance = seeded(495)
        phrases = list(small_phrases(2))
        for foe in small_foes():
            forms = Forms(foe)
            for phrase in chance.sample(phrases, 3):
                system = chance.choice(list(small_systems()))
                for words in all_words(line_of(phrase, look_rows(phrase)[0])):
                    self.check(system, foe, phrase, list(words), forms)
        self.assertGreater(min(self.told.values()), 200)

    def test_larger_phrases(self):
        chance = seeded(496)
        for _ in range(120):
            many = chance.randrange(2, 6)
            system, foe, phrase = one_place(chance, many), some_foe(chance, many, 5), some_looks(chance, many, 5)
            rows = look_rows(phrase)
            words = [chance.random() < 0.6 for _ in rows[0]]
            stories = [(row, story(system, foe, line_of(phrase, row), [words[k] for k in row])) for row in rows]
            told = [entry for entry in stories if entry[1] is not None]
            found = phrase_story(system, foe, phrase, tuple(words))
            self.assertEqual(found, told[0] if told else None)
        # Who is told to be bad is so first, and mended then: the second row alone.
        system, foe, phrase = System(1, [0] * 3, [[]] * 3, [0]), Foe(3, [1], []), phrase_from("@0((0>1 +~+ 2>1))")
        row, run = phrase_story(system, foe, phrase, [True, False])
        self.assertEqual((row, run), ((1, 0), Run([[1], [1], []], [[1], []])))
        self.assertEqual(phrase_story(system, foe, phrase, [False, True])[0], (0, 1))

    def test_no_looks(self):
        system, foe = System(1, [0, 0], [[], []], [0]), Foe(2, [1], [])
        self.assertEqual(phrase_story(system, foe, phrase_from("@0(!)"), []), ((), Run([[1]], [])))

    def test_seven_hundred_and_twenty_rows_and_more(self):
        system, foe = System(1, [0] * 7, [[]] * 7, [0]), Foe(7, [1], [])
        phrase = Ask(0, beside(*[Look(0, k) for k in range(1, 7)]))
        self.assertEqual(count_rows(look_order(system, phrase)), 720)
        row, run = phrase_story(system, foe, phrase, [False] + [True] * 5)
        self.assertEqual((row, run.bad_at(0)), ((0, 1, 2, 3, 4, 5), (1,)))
        self.assertIsNone(phrase_story(system, foe, phrase, [True] * 5 + [False]))
        # 840 rows: three in turn beside four that are in no order.
        more = Ask(0, beside(in_turn(*[Look(0, 1)] * 3), *[Look(0, 2)] * 4))
        self.assertEqual(count_rows(look_order(system, more)), 840)
        self.raises(TooMany, "rows", phrase_story, system, foe, more, [True] * 7)
        ten = Ask(0, beside(*[Look(0, 1)] * 10))
        self.raises(TooMany, "rows", phrase_story, system, foe, ten, [True] * 10)
        self.raises(BadSet, "words", phrase_story, system, foe, ten, [True] * 9)


class Errors(Case):

    def test_lines(self):
        system, foe, few = System(1, [0, 0], [[], []], [0]), Foe(2, [1], []), Foe(1, [], [])
        line = [(0, 1), None]
        for pair in wrong_pairs(2):
            if pair is not None:
                self.raises(BadLine, 1, story_sets, system, few, [(0, 1), pair], None)
                self.raises(BadLine, 1, guilty_lists, system, few, [(0, 1), pair], None)
                self.raises(BadLine, 1, story_lots, system, [(0, 1), pair], None)
        for value in NO_LISTS + [[None] * 17]:
            self.raises(BadLine, -1, story_sets, system, few, value, None)
            self.raises(BadLine, -1, guilty_lists, system, few, value, None)
            self.raises(BadLine, -1, story_lots, system, value, None)
        self.raises(BadFoe, "many", story_sets, system, few, line, None)
        self.raises(BadFoe, "many", guilty_lists, system, few, line, None)
        six, foe_of_six = System(1, [0] * 6, [[]] * 6, [0]), Foe(6, [1], [])
        for value in NO_LISTS + wrong_words(line):
            for here, over in ((system, foe), (six, foe_of_six)):
                self.raises(BadSet, "words", story_sets, here, over, line, value)
                self.raises(BadSet, "words", guilty_lists, here, over, line, value)
                self.raises(BadSet, "words", story_lots, here, line, value)
        self.raises(TooMany, "parts", story_sets, six, foe_of_six, line, [True, None])
        self.raises(TooMany, "parts", guilty_lists, six, foe_of_six, line, [True, None])
        self.raises(TooMany, "parts", story_lots, six, line, [True, None])
        line, words = [[0, 1], None], [False, None]
        guilty_lists(system, foe, line, words)
        story_lots(system, line, words)
        self.assertEqual((line, words), ([[0, 1], None], [False, None]))

    def test_phrases(self):
        system, foe, few = System(1, [0, 0], [[], []], [0]), Foe(2, [1], []), Foe(1, [], [])
        for value in NO_PHRASES + [Look(0, 1)]:
            word = "judge" if isinstance(value, Look) else "phrase"
            self.raises(BadPhrase, word, phrase_story, system, few, value, None)
        phrase = phrase_from("@0((0>1 -> 1>0))")
        self.raises(BadFoe, "many", phrase_story, system, few, phrase, None)
        for value in NO_LISTS + [[], [True], [True] * 3, [True, None], [1, True], [True, "good"]]:
            self.raises(BadSet, "words", phrase_story, system, foe, phrase, value)
        words = [True, False]
        phrase_story(system, foe, phrase, words)
        self.assertEqual(words, [True, False])


if __name__ == "__main__":
    unittest.main()
