"""Points 122, 124 and 129: changeable copies, reasons, unread runs, what memory changes."""

import unittest

from deeplooks.changing import (bad_looks, blocked, change_steps, changeable, first_kept, is_blocked, unread, words_of)
from deeplooks.errors import BadPhrase, BadRow, BadRun, NotThere
from deeplooks.phrases import Branch, Look, look_many
from deeplooks.phrasetexts import phrase_from
from deeplooks.runs import Run
from deeplooks.systems import System
from deeplooks.ways import way_of
from deeplooks.worth import copies_of, sign_holds
from tests.helpers import FOUR, NO_LISTS, ODD, Case, seeded
from tests.slowchanging import (copies_kept, first_extreme, heard, is_bad_managed, is_out, memory_phrases,
                                phrases_to_change, some_form, some_four, some_row, steps_changed)
from tests.test_phrases import NO_PHRASES

PHRASE = phrase_from("@0((0>1 -> @1((2>3 -> !))))")
ROW = [0, 1, 2, 3, 4, 5]


def is_reason(system, phrase, row, run, path, told, memory):
    """True if the triples are a reason for the copy, by point 124."""
    wanted = []
    for k, (event, _, signs) in enumerate(way_of(system, phrase, path)):
        i = row.index(event)
        if is_bad_managed(system, phrase, row, run, i):
            wanted.append((k, [(sign, place) for sign, place in signs if not is_out(system, run, place, i)
                               and (not memory or sign_holds(phrase, sign))]))
    if len(told) != len(wanted):
        return False
    return all(triple[0] == k and tuple(triple[1:]) in signs for triple, (k, signs) in zip(told, wanted))


def drawn(seed, count, events=12):
    """Systems, phrases, rows and runs on them."""
    chance = seeded(seed)
    for phrase in list(phrases_to_change(seed + 1, count, events)) + list(memory_phrases(chance, count // 2)):
        system = some_four(chance)
        row = some_row(chance, system, phrase)
        for _ in range(3):
            parts = chance.choice([range(8), sorted(set(system.managers)), range(5)])
            yield chance, system, phrase, row, some_form(chance, parts, len(row), chance.choice([0.2, 0.5, 0.9]))


class Changing(Case):

    def test_drawn_runs(self):
        told = {}
        for chance, system, phrase, row, run in drawn(172, 120):
            looks = heard(system, phrase, row, run)
            self.assertEqual(bad_looks(system, phrase, row, run), tuple(sorted(looks)))
            words = tuple(number not in looks for number in range(look_many(phrase)))
            self.assertEqual(words_of(system, phrase, tuple(row), run), words)
            for memory in (False, True, 0, "yes"):
                kept = copies_kept(system, phrase, row, run, memory)
                self.assertEqual(first_kept(system, phrase, row, run, memory=memory), kept[0] if kept else None)
                self.assertIs(unread(system, phrase, row, run, memory=memory), not kept)
                for path in [path for copies in copies_of(phrase) for path in copies]:
                    right = steps_changed(system, phrase, row, run, path, memory)
                    self.assertEqual(change_steps(system, phrase, row, run, path, memory=memory), right)
                    self.assertIs(changeable(system, phrase, row, run, list(path), memory=memory), right != ())
                    self.check_reason(chance, system, phrase, row, run, path, memory, right)
                    told[right != ()] = told.get(right != (), 0) + 1
        self.assertGreater(min(told.values()), 300)

    def check_reason(self, chance, system, phrase, row, run, path, memory, right):
        """The reason for the copy, and ones that are bent in one number."""
        reason = blocked(system, phrase, row, run, path, memory=memory)
        self.assertEqual(reason is None, right != ())
        if reason is None:
            self.assertIs(is_blocked(system, phrase, row, run, path, (), memory=memory), False)
            return
        self.assertIs(type(reason), tuple)
        self.assertTrue(is_reason(system, phrase, row, run, path, reason, memory))
        self.assertIs(is_blocked(system, phrase, row, run, path, [list(t) for t in reason], memory=memory), True)
        if reason:
            k, at = chance.randrange(len(reason)), chance.randrange(3)
            triple = list(reason[k])
            triple[at] += chance.choice([-1, 1])
            for other in [reason[:k] + (tuple(triple),) + reason[k + 1:], reason[:k] + reason[k + 1:],
                          reason + reason[-1:], reason[::-1]]:
                told = is_blocked(system, phrase, row, run, path, other, memory=memory)
                self.assertIs(told, is_reason(system, phrase, row, run, path, other, memory))

    def test_reasons_of_any_kind(self):
        run = Run([[], [1], [1], [], [], [0], [0]], [[], [1], [], [], [], [0]])
        path = ("in", "in")
        self.assertEqual(blocked(FOUR, PHRASE, ROW, run, path), ((3, 0, 1),))
        self.assertIs(is_blocked(FOUR, PHRASE, ROW, run, path, [[3, 0, 1]]), True)
        wrong = [(), [None], [()], [(3, 0)], [(3, 0, 1, 0)], [(3, 0, True)], [(3, False, 1)], [(3, "0", 1)], [(3, 0, None)],
                 [(2, 0, 1)], [(3, 1, 1)], [(3, 0, 0)], [(3, 0, 1), (3, 0, 1)], [ODD], [(3.0, 0, 1)], (3, 0, 1)]
        for value in NO_LISTS + wrong:
            self.assertIs(is_blocked(FOUR, PHRASE, ROW, run, path, value), False)
        # Without a bad-managed position on the way the reason is ().
        self.assertEqual(blocked(FOUR, PHRASE, ROW, Run.blank(6), path), ())
        self.assertIs(is_blocked(FOUR, PHRASE, ROW, Run.blank(6), path, []), True)
        self.assertIs(is_blocked(FOUR, PHRASE, ROW, Run.blank(6), path, [(3, 0, 1)]), False)

    def test_lost_looks(self):
        phrase = phrase_from("@0((0>1 -> (1>0 -;- !)))")
        row = [0, 1, 2, 3]
        run = Run([[1]] * 5, [[1]] * 4)
        self.assertEqual(bad_looks(FOUR, phrase, row, run), (0,))
        self.assertEqual(words_of(FOUR, phrase, row, run), (False, True))
        # A lost look has no copy that could be kept.
        self.assertIsNone(first_kept(FOUR, phrase, row, run))
        self.assertIs(unread(FOUR, phrase, row, run), True)

    def test_parts_that_no_system_has(self):
        small = System(1, [0, 0], [[], []], [0])
        run = Run([[7]] * 4, [[5, 1], [1, 6], [1, 7]])
        self.assertEqual(bad_looks(small, phrase_from("@0(0>1)"), [0, 1, 2], run), (0,))

    def test_errors_in_their_order(self):
        run = Run.blank(6)
        calls = [(bad_looks, ()), (words_of, ()), (change_steps, (None,)), (changeable, (None,)), (blocked, (None,)),
                 (is_blocked, (None, None)), (first_kept, ()), (unread, ())]
        for call, more in calls:
            for value in NO_PHRASES + [Look(0, 1)]:
                word = "judge" if isinstance(value, Look) else "phrase"
                self.raises(BadPhrase, word, call, FOUR, value, None, run, *more)
            for value in NO_LISTS + [[], [0, 1, 2, 3, 5, 4], [0, 1, 2, 3, 4], [False, 1, 2, 3, 4, 5]]:
                self.raises(BadRow, 0, call, FOUR, PHRASE, value, Run.blank(5), *more)
            for length in (0, 5, 7):
                self.raises(BadRun, -1, call, FOUR, PHRASE, ROW, Run.blank(length), *more)
        for call in (change_steps, changeable, blocked):
            for value in NO_LISTS + [(), ["left"], ["in", "in", "in"], [0], "in"]:
                self.raises(NotThere, "path", call, FOUR, PHRASE, ROW, run, value)
                self.raises(NotThere, "path", is_blocked, FOUR, PHRASE, ROW, run, value, None)

    def test_changes_nothing(self):
        row, path, told = list(ROW), ["in", "in"], [[3, 0, 1]]
        run = Run([[], [1], [1], [], [], [0], [0]], [[], [1], [], [], [], [0]])
        is_blocked(FOUR, PHRASE, row, run, path, told)
        change_steps(FOUR, PHRASE, row, run, path)
        self.assertEqual((row, path, told), (ROW, ["in", "in"], [[3, 0, 1]]))


class Memory(Case):

    def test_memory_takes_nothing_away(self):
        more = 0
        for _, system, phrase, row, run in drawn(174, 80):
            for path in [path for copies in copies_of(phrase) for path in copies]:
                with_it = changeable(system, phrase, row, run, path, memory=True)
                without = changeable(system, phrase, row, run, path)
                self.assertLessEqual(without, with_it)
                if with_it and not without:
                    more += 1
                    self.assertTrue(memory_may_help(system, phrase, path))
                if hands_all_on(phrase):
                    self.assertEqual(without, with_it)
        self.assertGreater(more, 3)

    def test_where_memory_may_help_it_does_in_some_run(self):
        tried = 0
        for phrase in list(phrases_to_change(176, 50)) + list(memory_phrases(seeded(177), 60)):
            row = first_extreme(FOUR, phrase)
            for path in [path for copies in copies_of(phrase) for path in copies]:
                for event, place, missing in memory_may_help(FOUR, phrase, path):
                    tried += 1
                    run = one_bad_position(FOUR, row, row.index(event), place, missing)
                    self.assertIs(changeable(FOUR, phrase, row, run, path, memory=True), True)
                    self.assertIs(changeable(FOUR, phrase, row, run, path), False)
        self.assertGreater(tried, 10)


def hands_all_on(phrase):
    """True if all branches hand the evidence in hand on to both parts."""
    own = not isinstance(phrase, Branch) or phrase.keep_left and phrase.keep_right
    return own and all(hands_all_on(part) for part in phrase.parts_of())


def memory_may_help(system, phrase, path):
    """The steps, as (event, place, place of the round), at which memory helps in some run, by point 129."""
    found = []
    for k, (event, place, signs) in enumerate(way_of(system, phrase, path)):
        for other in sorted({q for _, q in signs}):
            if k and place != -1 and other != place:
                if not any(sign_holds(phrase, sign) for sign, q in signs if q == other):
                    found.append((event, place, other))
    return found


def one_bad_position(system, row, i, place, missing):
    """A run in which all keys but one are out, and only position i is bad-managed, by its own manager."""
    bad = sorted(system.managers[q] for q in range(system.places) if q != missing)
    own = [system.managers[place]]
    states = [own if k == i else [] for k in range(len(row))]
    moments = [bad] + [own if k in (i, i + 1) else [] for k in range(1, len(row) + 1)]
    return Run(moments, states)


if __name__ == "__main__":
    unittest.main()
