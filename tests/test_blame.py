"""Points 196 to 198 and 200: what looks may say, the story, who may and must have been bad."""

import unittest

from deeplooks.blame import explains, may_be, must_at, must_ever, says, story
from deeplooks.covers import Hearing
from deeplooks.driving import drive
from deeplooks.errors import BadFoe, BadLine, BadNumber, BadRow, BadRun, BadSet
from deeplooks.evidence import words_in
from deeplooks.foes import Foe
from deeplooks.growth import grow
from deeplooks.guilt import phrase_story
from deeplooks.openness import event_line
from deeplooks.runs import Run, is_run
from deeplooks.sieves import sieve
from deeplooks.systems import System
from deeplooks.worth import lost_looks
from tests.asked import wrong_pairs
from tests.helpers import NO_INTEGERS, NO_LISTS, Case, seeded, some_foe
from tests.slowblame import all_words, drawn_words, explaining, greatest, parts_of_form, said, wrong_words
from tests.slowchanging import phrases_to_change, some_four, some_row
from tests.slowopen import looks_of
from tests.slowsieve import Forms, one_place, run_of, small_foes, small_lines, small_systems, some_line
from tests.slowstarts import drawn_run


def as_words(told):
    """What `says` returns for a set of words."""
    return None if told is None else "either" if len(told) == 2 else "good" if True in told else "bad"


class Small(Case):

    def check(self, system, foe, line, words, forms):
        """All functions, for all runs of a foe on a line."""
        right = explaining(system, line, words, forms)
        found = story(system, foe, line, list(words))
        self.told[bool(right)] = self.told.get(bool(right), 0) + 1
        if not right:
            self.assertIsNone(found)
            self.assertEqual(may_be(system, foe, line, words), ((),) * len(line))
        else:
            self.assertEqual(found, run_of(greatest(right, len(line))))
            self.assertEqual(may_be(system, foe, line, words), found.states)
        for part in range(system.many):
            ever = bool(right) and all(part in parts_of_form(form) for form in right)
            self.assertIs(must_ever(system, foe, line, words, part), ever)
            for i in range(len(line)):
                at = bool(right) and all(part in form[1][i] for form in right)
                self.assertIs(must_at(system, foe, line, words, part, i), at)
        if right and all(word is not False for word in words):
            self.assertEqual(found, sieve(foe, line, Hearing(system, line)))
        return right

    def test_lines_of_two_places(self):
        self.told = {}
        chance = seeded(480)
        for foe in small_foes():
            forms = Forms(foe)
            system = chance.choice(list(small_systems()))
            for line in chance.sample(list(small_lines(2)), 3):
                for words in all_words(line):
                    self.check(system, foe, line, words, forms.of(2))
        self.assertGreater(min(self.told.values()), 150)

    def test_longer_lines(self):
        self.told = {}
        chance = seeded(481)
        for _ in range(40):
            many, length = chance.choice([(2, 3), (3, 2), (1, 4), (2, 0), (3, 1)])
            system, foe, line = one_place(chance, many), some_foe(chance, many, 4), some_line(chance, many, length)
            forms = Forms(foe).of(length)
            for words in list(all_words(line))[:6]:
                right = self.check(system, foe, line, words, forms)
                for form in chance.sample(forms, min(len(forms), 20)):
                    self.assertIs(explains(system, foe, line, words, run_of(form)), form in right)
        self.assertGreater(min(self.told.values()), 10)


class Says(Case):

    def test_all_states(self):
        chance = seeded(482)
        told = {}
        for _ in range(300):
            many = chance.randrange(1, 9)
            system, line = one_place(chance, many), some_line(chance, many, chance.randrange(1, 8))
            states = [[p for p in range(many) if chance.random() < 0.3] for _ in line]
            run = Run([[]] * (len(line) + 1), states)
            for i, look in enumerate(line):
                right = as_words(said(system, look, run.states[i]))
                told[right] = True
                self.assertEqual(says(system, line, run, i), right)
        self.assertEqual(set(told), {None, "either", "good", "bad"})

    def test_errors_in_their_order(self):
        system, line, run = System(1, [0, 0], [[], []], [0]), [(0, 1), None], Run.blank(2)
        for pair in wrong_pairs(2):
            if pair is not None:
                self.raises(BadLine, 1, says, system, [(0, 1), pair], run, None)
        for value in NO_LISTS + [[None] * 17]:
            self.raises(BadLine, -1, says, system, value, Run.blank(0), None)
        for length in (0, 1, 3):
            self.raises(BadRun, -1, says, system, line, Run.blank(length), None)
        for value in NO_INTEGERS + [-1, 2]:
            self.raises(BadRow, value, says, system, line, run, value)


class Larger(Case):

    def test_words_of_drawn_runs(self):
        chance = seeded(483)
        musts = 0
        for _ in range(150):
            many = chance.randrange(2, 8)
            system, foe = one_place(chance, many), some_foe(chance, many, 7)
            line = some_line(chance, many, chance.randrange(1, 10))
            run = drawn_run(chance, foe, len(line))
            words = drawn_words(chance, system, line, run)
            self.assertIs(explains(system, foe, line, words, run), True)
            found = story(system, foe, line, tuple(words))
            self.assertTrue(run.under(found))
            self.assertIs(explains(system, foe, line, words, found), True)
            self.assertEqual(may_be(system, foe, line, words), found.states)
            # A larger foe explains them too.
            self.assertTrue(found.under(story(system, foe | some_foe(chance, many, 3), line, words)))
            for part in range(many):
                ever = must_ever(system, foe, line, words, part)
                self.assertIs(ever, story(system, foe.less([part]), line, words) is None)
                musts += ever
                if ever:
                    self.assertTrue(any(part in moments for moments in run.moments))
                for i in range(len(line)):
                    if must_at(system, foe, line, words, part, i):
                        self.assertIn(part, run.states[i])
            self.check_bent(chance, system, foe, line, words, run)
        self.assertGreater(musts, 30)

    def check_bent(self, chance, system, foe, line, words, run):
        """With one word turned round the run may explain them or not, and other runs may."""
        looks = [i for i, look in enumerate(line) if look is not None]
        if looks:
            i = chance.choice(looks)
            bent = list(words)
            bent[i] = not bent[i]
            right = bent[i] in said(system, line[i], run.states[i])
            self.assertIs(explains(system, foe, line, bent, run), right)
            if story(system, foe, line, bent) is None:
                self.assertFalse(right)
                self.assertEqual(may_be(system, foe, line, bent), ((),) * len(line))
                self.assertIs(must_ever(system, foe, line, bent, 0), False)
                self.assertIs(must_at(system, foe, line, bent, 0, i), False)

    def test_all_good_but_one(self):
        chance = seeded(484)
        told = {}
        for _ in range(200):
            many = chance.randrange(2, 6)
            system, foe, line = one_place(chance, many), some_foe(chance, many, 5), some_line(chance, many, 5, 0.1)
            looks = [i for i, look in enumerate(line) if look is not None]
            if not looks:
                continue
            i = chance.choice(looks)
            words = [None if look is None else k != i for k, look in enumerate(line)]
            free = [None if k == i else look for k, look in enumerate(line)]
            run = sieve(foe, free, Hearing(system, free))
            right = bool({line[i][1], *system.needs[line[i][0]]} & set(run.states[i]))
            told[right] = told.get(right, 0) + 1
            self.assertEqual(story(system, foe, line, words), run if right else None)
        self.assertGreater(min(told.values()), 30)

    def test_what_is_no_run_explains_nothing(self):
        system, foe, line = System(1, [0, 0], [[], []], [0]), Foe(2, [1], []), [(0, 1), None]
        right = Run([[1], [1], []], [[1], []])
        self.assertIs(explains(system, foe, line, [False, None], right), True)
        self.assertIs(explains(system, foe, line, [True, None], right), False)
        for run in (Run([[0, 1], [1], []], [[1], []]), Run([[1, 5], [1], []], [[1], []]), Run([[1], [1], [1]], [[1], []])):
            self.assertIs(is_run(foe, run), False)
            self.assertIs(explains(system, foe, line, [False, None], run), False)
        self.assertIs(explains(system, foe, [], [], Run([[1]], [])), True)
        self.assertEqual(story(system, foe, (), ()), Run([[1]], []))

    def test_measurers_that_rest_on_nothing_bad(self):
        chance = seeded(485)
        tried = 0
        for _ in range(150):
            many = chance.randrange(3, 7)
            system = one_place(chance, many)
            foe = some_foe(chance, many, 4)
            bad = set(grow(foe, foe.early))
            line = [look for look in some_line(chance, many, 8, 0.1) if look is None or not set(system.needs[look[0]]) & bad]
            run = drawn_run(chance, foe, len(line))
            for words in [drawn_words(chance, system, line, run)] + list(all_words(line))[:3]:
                right = all(look is None or word == (look[1] not in state)
                            for look, word, state in zip(line, words, run.states))
                tried += 1
                self.assertIs(explains(system, foe, line, words, run), right)
        self.assertGreater(tried, 100)

    def test_words_in_the_answer_of_a_machine(self):
        chance = seeded(486)
        tried = 0
        for phrase in phrases_to_change(487, 50):
            system = some_four(chance)
            others = [part for part in range(8) if part not in system.managers]
            rules = [((), chance.choice(others)), ([chance.choice(others)], chance.choice(others))]
            foe = Foe(8, [p for p in others if chance.random() < 0.6], rules)
            if lost_looks(phrase) or not looks_of(phrase):
                continue
            tried += 1
            row = some_row(chance, system, phrase)
            line = event_line(system, phrase, row)
            run = drawn_run(chance, foe, len(row))
            told = drawn_words(chance, system, line, run)
            words = [word for _, word in sorted((e, word) for e, word in zip(row, told) if word is not None)]
            machine = drive(system, phrase, 5, row, words)
            answered = {(look, good) for _, look, good in words_in(machine.answer())}
            self.assertEqual(answered, set(enumerate(words)))
            looks = [e for e in machine.recorded() if e in [f for f, word in zip(row, told) if word is not None]]
            self.assertEqual(looks, [e for e, word in zip(row, told) if word is not None])
            # The run explains the words on this row; so some run does on the first look row that has one.
            self.assertIs(explains(system, foe, line, told, run), True)
            self.assertIsNotNone(phrase_story(system, foe, phrase, words))
        self.assertGreater(tried, 20)


class Errors(Case):

    def test_errors_in_their_order(self):
        system, foe, few = System(1, [0, 0], [[], []], [0]), Foe(2, [1], []), Foe(1, [], [])
        line, run = [(0, 1), None], Run.blank(2)
        calls = [(story, ()), (may_be, ()), (explains, (Run.blank(7),)), (must_ever, (None,)), (must_at, (None, None))]
        for call, more in calls:
            for pair in wrong_pairs(2):
                if pair is not None:
                    self.raises(BadLine, 1, call, system, few, [(0, 1), pair], None, *more)
            for value in NO_LISTS + [[None] * 17]:
                self.raises(BadLine, -1, call, system, few, value, None, *more)
            self.raises(BadFoe, "many", call, system, few, line, None, *more)
            for value in NO_LISTS + wrong_words(line):
                self.raises(BadSet, "words", call, system, foe, line, value, *more)
        for length in (0, 1, 3):
            self.raises(BadRun, -1, explains, system, foe, line, [True, None], Run.blank(length))
        for value in NO_INTEGERS + [-1, 2]:
            self.raises(BadNumber, "part", must_ever, system, foe, line, [True, None], value)
            self.raises(BadNumber, "part", must_at, system, foe, line, [True, None], value, None)
            self.raises(BadRow, value, must_at, system, foe, line, [True, None], 0, value)
        line, words = [[0, 1], None], [False, None]
        must_at(system, foe, line, words, 1, 1)
        self.assertEqual((line, words), ([[0, 1], None], [False, None]))
        self.assertIs(must_at(system, foe, line, words, 1, 0), True)
        self.assertIs(must_at(system, foe, line, words, 1, 1), False)
        self.assertIs(explains(system, foe, line, [True, None], run), True)

    def test_sixteen_positions(self):
        chance = seeded(488)
        system, foe = one_place(chance, 8), some_foe(chance, 8, 8)
        line = some_line(chance, 8, 16, 0)
        run = drawn_run(chance, foe, 16)
        words = drawn_words(chance, system, line, run)
        self.assertIs(explains(system, foe, line, words, story(system, foe, line, words)), True)


if __name__ == "__main__":
    unittest.main()
