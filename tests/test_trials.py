"""Point 204: trials, behind which a desk is as it was."""

import unittest

from deeplooks.desks import Desk
from deeplooks.errors import BadBook, BadFoe, BadNumber, DeepError
from deeplooks.foes import Foe
from deeplooks.phrasetexts import phrase_from
from deeplooks.systems import System
from deeplooks.trials import Trial, tried
from tests.helpers import NO_LISTS, ODD, Case, seeded, some_foe
from tests.slowstarts import small_phrase, small_system
from tests.test_desks import Book, Walks, some_desk


def whole(desk):
    """All that the desk tells, with what can be undone and done again."""
    found = [desk.told]
    back = 0
    try:
        while True:
            desk.undo()
            back += 1
            found.append(desk.told)
    except BadBook:
        pass
    try:
        while True:
            desk.again()
            found.append(desk.told)
            back -= 1
    except BadBook:
        pass
    for _ in range(-back):
        desk.undo()
    return found


def busy_desk():
    """A desk with two changes that can be undone, and one that can be done again."""
    desk = some_desk()
    desk.want((1, 0))
    desk.add_rule([1], 0)
    desk.put_out(2)
    desk.undo()
    return desk


class Trials(Case):

    def test_begin_and_finish(self):
        desk = busy_desk()
        before, told = whole(desk), desk.told
        self.assertEqual(desk.told, told)
        trial = Trial(desk)
        self.assertIs(trial.ended, False)
        self.raises(BadBook, "trial", trial.finish)
        desk.undo()
        desk.again()
        self.assertIs(trial.begin(), desk)
        self.raises(BadBook, "trial", trial.begin)
        self.assertIs(trial.ended, False)
        desk.set_foe(Foe(3, [], []))
        desk.undo()
        desk.undo()
        desk.undo()
        self.raises(BadBook, "undo", desk.undo)
        self.assertIsNone(trial.finish())
        self.assertIs(trial.ended, True)
        self.assertEqual(whole(desk), before)
        self.raises(BadBook, "trial", trial.finish)
        self.raises(BadBook, "trial", trial.begin)
        self.assertEqual(desk.told, told)

    def test_the_block_begins_when_it_is_begun(self):
        desk = busy_desk()
        trial = Trial(desk)
        desk.want((0, None))
        before = whole(desk)
        trial.begin()
        desk.drop((0, None))
        trial.finish()
        self.assertEqual(whole(desk), before)
        self.assertIn((0, None), desk.aims())

    def test_with(self):
        desk = busy_desk()
        before = whole(desk)
        trial = Trial(desk)
        with trial as held:
            self.assertIs(held, desk)
            self.assertIs(trial.ended, False)
            self.raises(BadBook, "trial", trial.begin)
            held.want((2, 1))
            held.sign_all()
        self.assertIs(trial.ended, True)
        self.assertEqual(whole(desk), before)
        self.raises(BadBook, "trial", trial.finish)
        with self.assertRaises(BadBook):
            with trial:
                self.fail("a trial is for one block")
        begun = Trial(desk)
        begun.begin()
        with self.assertRaises(BadBook):
            with begun:
                self.fail("a trial is for one block")
        begun.finish()
        self.assertEqual(whole(desk), before)

    def test_errors_go_on_to_the_caller(self):
        desk = busy_desk()
        before = whole(desk)
        for error in (ValueError("odd"), BadBook("odd"), KeyError("odd")):
            trial = Trial(desk)
            with self.assertRaises(type(error)) as caught:
                with trial as held:
                    held.set_foe(Foe(3, [0], []))
                    held.undo()
                    held.undo()
                    raise error
            self.assertIs(caught.exception, error)
            self.assertIs(trial.ended, True)
            self.assertEqual(whole(desk), before)
        with self.assertRaises(BadFoe):
            with Trial(desk) as held:
                held.put_out(1)
                held.set_foe(Foe(2, [], []))
        self.assertEqual(whole(desk), before)

    def test_trials_in_trials(self):
        chance = seeded(520)
        walk = Walks()
        for _ in range(40):
            system = small_system(chance, chance.randrange(2, 5))
            foe, phrase = some_foe(chance, system.many, 3), small_phrase(chance, system, 5)
            desk, book = Desk(system, foe, phrase, 5), Book(system, foe, phrase, 5)
            open_trials = []
            for _ in range(40):
                kind = chance.random()
                if kind < 0.15:
                    trial = Trial(desk)
                    trial.begin()
                    open_trials.append((trial, list(book.pages), book.at, whole(desk)))
                elif kind < 0.3 and open_trials:
                    trial, pages, at, held = open_trials.pop()
                    trial.finish()
                    book.pages, book.at = pages, at
                    self.assertEqual(desk.told, book.told())
                    self.assertEqual(whole(desk), held)
                else:
                    walk.step(chance, desk, book)

    def test_nested_blocks(self):
        desk = busy_desk()
        before = whole(desk)
        with Trial(desk) as one:
            one.want((2, 1))
            middle = whole(desk)
            with Trial(one) as two:
                two.drop((2, 1))
                two.undo()
                two.undo()
            self.assertEqual(whole(desk), middle)
        self.assertEqual(whole(desk), before)


class Tried(Case):

    def test_changes_and_a_question(self):
        desk = busy_desk()
        before = whole(desk)
        seen = []

        def question(held):
            """Keeps the desk and tells what it tells."""
            seen.append(held)
            return held.told

        changes = [("set_foe", [Foe(3, [0, 1], [])]), ["add_rule", ([], 2)], ("add_look", (0, 2)), ("want", [(2, 2)]),
                   ("drop", [(1, 0)]), ("put_out", (1,)), ("sign_all", ()), ("set_phrase", [phrase_from("(@0(0>1) -> @0((2>2 -> 0>2)))")]),
                   ("undo", []), ("again", ())]
        told = tried(desk, changes, question)
        self.assertIs(seen[0], desk)
        self.assertEqual(told[1:], ("parts 3\nearly 0\nrules > 2\nstuck", "(@0(0>1) -> @0((2>2 -> 0>2)))", 7, ((2, 2),)))
        self.assertEqual(whole(desk), before)
        self.assertEqual(tried(desk, (), Desk.aims), ((1, 0),))
        # The desk is really the desk, and each change is one.
        self.assertEqual(len(before), 6)
        for count in (1, 2, 3):
            self.assertEqual(len(tried(desk, [("put_out", [0])] * count, whole)), 5 + 2 * count)
        self.assertEqual(whole(desk), before)
        self.assertEqual(len(changes), 10)

    def test_errors_of_changes_and_questions(self):
        desk = busy_desk()
        before = whole(desk)
        with self.assertRaises(BadNumber):
            tried(desk, [("put_out", [1]), ("put_out", [3])], Desk.aims)
        self.assertEqual(whole(desk), before)
        self.raises(BadBook, "again", tried, desk, [("put_out", [1]), ("again", ())], Desk.aims)
        self.raises(BadBook, "undo", tried, desk, [("undo", ())] * 3, Desk.aims)
        with self.assertRaises(ZeroDivisionError):
            tried(desk, [("put_out", [1])], lambda held: 1 // 0)
        with self.assertRaises(DeepError):
            tried(desk, [("undo", [])], lambda held: held.opens((9, None)))
        self.assertEqual(whole(desk), before)

    def test_what_is_no_list_of_changes(self):
        desk = busy_desk()
        before = whole(desk)
        wrong = NO_LISTS + [[None], ["undo"], [("undo",)], [("undo", (), ())], [("undo", None)], [("undo", "")], [(0, ())],
                            [("aims", ())], [("told", ())], [("opens", [(1, 0)])], [("_turn", [None])], [("", ())],
                            [([], ())], [(None, [])], [("Undo", ())], [("undo", {})], [{0: "undo", 1: ()}], [ODD]]
        for value in wrong:
            self.raises(BadBook, "change", tried, desk, value, None)
            if isinstance(value, list):
                self.raises(BadBook, "change", tried, desk, [("put_out", [9])] + value, None)
        self.assertEqual(whole(desk), before)
        system = System(1, [0], [[]], [0])
        self.assertEqual(tried(Desk(system, Foe(1, [], []), phrase_from("@0(0>0)"), 0), [], Desk.aims), ())


if __name__ == "__main__":
    unittest.main()
