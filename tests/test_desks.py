"""Points 202 and 203: desks, their changes, undone and done again."""

import unittest

from deeplooks.desks import Desk
from deeplooks.errors import BadAim, BadBook, BadFoe, BadNumber, BadPhrase, BadText, DeepError, TooMany
from deeplooks.foes import Foe, foe_text
from deeplooks.leavings import bare, signed_at
from deeplooks.mending import mend_told
from deeplooks.needed import fewest_signs
from deeplooks.openness import is_open, open_way, peels_of
from deeplooks.phrases import Ask, Look, Sign, Then, beside
from deeplooks.phrasetexts import phrase_from, phrase_text
from deeplooks.readers import taken_way
from deeplooks.systems import System
from deeplooks.systemtexts import system_text
from tests.helpers import NO_INTEGERS, NO_LISTS, NO_TEXTS, ODD, Case, all_subsets, seeded, some_foe
from tests.slowopen import aims_of_phrase
from tests.slowstarts import small_phrase, small_system
from tests.test_leavings import nested
from tests.test_phrases import NO_PHRASES

SYSTEM = System(1, [0, 0, 0], [[], [0], []], [2])
PHRASE = phrase_from("@0((0>1 -> 1>2))")


def some_desk():
    """A desk of three parts."""
    return Desk(SYSTEM, Foe.of_lot([0, 1, 1]), PHRASE, 7)


class Book:
    """What a desk should hold, with pages that were turned."""

    def __init__(self, system, foe, phrase, nonce):
        self.system, self.nonce = system, nonce
        self.pages, self.at = [(foe, phrase, ())], 0

    @property
    def page(self):
        """The page that is open."""
        return self.pages[self.at]

    def turn(self, foe=None, phrase=None, aims=None):
        """One change."""
        old = self.page
        self.pages = self.pages[:self.at + 1] + [(foe or old[0], phrase or old[1], old[2] if aims is None else aims)]
        self.at += 1

    def told(self):
        """What the desk should tell."""
        foe, phrase, aims = self.page
        return (system_text(self.system), foe_text(foe), phrase_text(phrase), self.nonce, aims)


class Making(Case):

    def test_what_is_told(self):
        desk = some_desk()
        self.assertEqual(desk.told, (system_text(SYSTEM), "parts 3\nearly 1 2\nrules\nstuck", "@0((0>1 -> 1>2))", 7, ()))
        self.assertEqual(desk.aims(), ())
        self.raises(BadBook, "undo", desk.undo)
        self.raises(BadBook, "again", desk.again)

    def test_errors_in_their_order(self):
        few = Foe(2, [], [])
        for value in NO_PHRASES + [Look(0, 1)]:
            word = "judge" if isinstance(value, Look) else "phrase"
            self.raises(BadPhrase, word, Desk, SYSTEM, few, value, None)
        self.raises(BadFoe, "many", Desk, SYSTEM, few, PHRASE, None)
        for value in NO_INTEGERS + [-1, 1000000001]:
            self.raises(BadNumber, "nonce", Desk, SYSTEM, Foe(3, [], []), PHRASE, value)
        self.assertEqual(Desk(SYSTEM, Foe(3, [], []), PHRASE, 1000000000).told[3], 1000000000)


class Changes(Case):

    def test_set_foe_and_phrase(self):
        desk = some_desk()
        self.assertIsNone(desk.set_foe(Foe(3, [0], [])))
        self.assertEqual(desk.told[1], "parts 3\nearly 0\nrules\nstuck")
        self.raises(BadFoe, "many", desk.set_foe, Foe(2, [], []))
        desk.want((1, 0))
        desk.want((2, None))
        for value in NO_PHRASES + [Look(0, 1)]:
            self.raises(BadPhrase, "judge" if isinstance(value, Look) else "phrase", desk.set_phrase, value)
        for text in ["@0(!)", "@0((1>2 -> 0>1))", "@0(0>2)"]:
            self.raises(BadBook, "aim", desk.set_phrase, phrase_from(text))
        self.assertIsNone(desk.set_phrase(phrase_from("@0(2>1)")))
        self.assertEqual(desk.told[2:], ("@0(2>1)", 7, ((1, 0), (2, None))))

    def test_want_and_drop(self):
        desk = some_desk()
        self.assertIsNone(desk.want([2, 1]))
        self.assertIsNone(desk.want((0, None)))
        self.assertEqual(desk.aims(), ((2, 1), (0, None)))
        self.assertTrue(all(type(aim) is tuple for aim in desk.aims()))
        for value in NO_LISTS + [[], (3, None), (2, 0), (1, 2), (True, None), (1, True), (1, 0, 0), [ODD, None]]:
            for call in (desk.want, desk.drop, desk.opens, desk.taken, desk.paper, desk.mend):
                with self.assertRaises(BadAim):
                    call(value)
        self.raises(BadBook, "aim", desk.want, (2, 1))
        self.raises(BadBook, "aim", desk.want, [0, None])
        self.raises(BadBook, "aim", desk.drop, (1, 0))
        self.assertIsNone(desk.drop([2, 1]))
        desk.want((2, 1))
        self.assertEqual(desk.aims(), ((0, None), (2, 1)))

    def test_put_out_and_add_rule(self):
        desk = Desk(SYSTEM, Foe(3, [0, 1], [([0], 1), ([], 2)], stuck=[1]), PHRASE, 0)
        self.assertIsNone(desk.put_out(0))
        self.assertEqual(desk.told[1], "parts 3\nearly 1\nrules > 2\nstuck 1")
        for value in NO_INTEGERS + [-1, 3]:
            self.raises(BadNumber, "part", desk.put_out, value)
        self.assertIsNone(desk.add_rule([2, 1], 0))
        self.assertEqual(desk.told[1], "parts 3\nearly 1\nrules 1 2 > 0 / > 2\nstuck 1")
        for premise in NO_LISTS + [[3], [-1], [0, 0], [True], [None]]:
            self.raises(BadFoe, "rules", desk.add_rule, premise, 0)
        for part in NO_INTEGERS + [-1, 3]:
            self.raises(BadFoe, "rules", desk.add_rule, [1], part)
        self.raises(BadBook, "rule", desk.add_rule, (1, 2), 0)
        self.raises(BadBook, "rule", desk.add_rule, [], 2)
        self.assertIsNone(desk.add_rule([0], 0))

    def test_twenty_four_rules(self):
        rules = [(premise, part) for part in range(3) for premise in all_subsets(range(3))]
        desk = Desk(SYSTEM, Foe(3, [], rules[:23]), PHRASE, 0)
        desk.add_rule(*rules[23])
        self.assertEqual(desk.told[1].count(">"), 24)
        self.raises(BadBook, "rule", desk.add_rule, *rules[0])
        four = System(1, [0] * 4, [[]] * 4, [0])
        desk = Desk(four, Foe(4, [], rules), PHRASE, 0)
        self.raises(BadFoe, "rules", desk.add_rule, [0], 3)
        self.raises(BadBook, "rule", desk.add_rule, [0], 2)
        self.raises(BadFoe, "rules", desk.add_rule, [4], 2)
        desk.put_out(2)
        desk.add_rule([0], 3)

    def test_add_look(self):
        system = System(2, [0, 0, 1], [[]] * 3, [0, 2])
        desk = Desk(system, Foe(3, [], []), phrase_from("@0(0>1)"), 0)
        desk.want((1, 0))
        self.assertIsNone(desk.add_look(2, 0))
        self.assertEqual(desk.told[2], "(@0(0>1) -> @1(2>0))")
        desk.want((0, 1))
        for value in NO_INTEGERS + [-1, 8]:
            self.raises(BadNumber, "measurer", desk.add_look, value, None)
            self.raises(BadNumber, "target", desk.add_look, 7, value)
        for pair in ((3, 0), (0, 3), (7, 7)):
            self.raises(BadPhrase, "part", desk.add_look, *pair)
        desk.add_look(0, 0)
        desk.add_look(0, 0)
        self.assertEqual(desk.told[2], "(((@0(0>1) -> @1(2>0)) -> @0(0>0)) -> @0(0>0))")
        self.raises(BadPhrase, "many", desk.add_look, 0, 0)
        # Twelve events are there: parts that are none are told first.
        self.raises(BadPhrase, "part", desk.add_look, 0, 3)
        self.raises(BadPhrase, "part", desk.add_look, 3, 0)
        deep = Desk(system, Foe(3, [], []), nested(5, Then(Look(0, 1), Then(Sign(), Then(Sign(), Then(Sign(), Then(Sign(), Then(
            Sign(), Sign()))))))), 0)
        self.raises(BadPhrase, "depth", deep.add_look, 0, 1)

    def test_sign_all(self):
        system = System(2, [0, 0, 1], [[]] * 3, [0, 2])
        desk = Desk(system, Foe(3, [], []), phrase_from("@1((@0(0>1) -> !))"), 0)
        self.assertIsNone(desk.sign_all())
        self.assertEqual(desk.told[2], "@1(@0((0>1 -> !)))")
        self.raises(BadPhrase, "bare", Desk(system, Foe(3, [], []), phrase_from("@0(!)"), 0).sign_all)
        four = System(4, [0, 1, 2, 3], [[]] * 4, [0, 1, 2, 3])
        deep = phrase_from("@0((0>1 -> @1((1>3 -> @2((2>2 -> @3(3>3)))))))")
        spots = fewest_signs(four, deep)
        desk = Desk(four, Foe(4, [], []), deep, 0)
        with self.assertRaises(BadPhrase) as caught:
            signed_at(four, deep, spots)
        self.raises(BadPhrase, caught.exception.name, desk.sign_all)
        self.assertEqual(desk.told[2], phrase_text(deep))
        self.raises(BadBook, "undo", desk.undo)


class Walks(Case):

    def some_change(self, chance, book):
        """The name and arguments of a change, and what makes it in the book; None if the book refuses it."""
        foe, phrase, aims = book.page
        many = book.system.many
        kind = chance.choice(["set_foe", "set_phrase", "want", "drop", "put_out", "add_rule", "add_look", "sign_all"])
        if kind == "set_foe":
            new = chance.choice([foe, some_foe(chance, many, 4)])
            return kind, (new,), {"foe": new}
        if kind == "set_phrase":
            new = chance.choice([phrase, small_phrase(chance, book.system, 6)])
            right = all(aim in aims_of_phrase(new, many) for aim in aims)
            return kind, (new,), {"phrase": new} if right else None
        if kind in ("want", "drop"):
            aim = chance.choice(aims_of_phrase(phrase, many) + list(aims))
            if (aim in aims) == (kind == "want"):
                return kind, (aim,), None
            return kind, (aim,), {"aims": (*aims, aim) if kind == "want" else tuple(a for a in aims if a != aim)}
        if kind == "put_out":
            part = chance.randrange(many)
            return kind, (part,), {"foe": foe.less([part])}
        if kind == "add_rule":
            rule = (chance.sample(range(many), chance.randrange(2)), chance.randrange(many))
            held = (tuple(rule[0]), rule[1]) in foe.rules
            return kind, rule, None if held else {"foe": Foe(many, foe.early, [*foe.rules, rule], stuck=foe.stuck)}
        if kind == "add_look":
            pair = (chance.randrange(many), chance.randrange(many))
            new = Then(phrase, Ask(book.system.homes[pair[0]], Look(*pair)))
            return kind, pair, {"phrase": new} if self.fits(book, new) else None
        if bare(phrase):
            return kind, (), None
        return kind, (), {"phrase": signed_at(book.system, phrase, fewest_signs(book.system, phrase))}

    def fits(self, book, phrase):
        """True if a desk could be made with the phrase."""
        try:
            Desk(book.system, Foe(book.system.many, [], []), phrase, 0)
        except BadPhrase:
            return False
        return True

    def step(self, chance, desk, book):
        """One change, undoing, or doing again, on both."""
        kind = chance.random()
        if kind < 0.25:
            if book.at == 0:
                self.raises(BadBook, "undo", desk.undo)
            else:
                self.assertIsNone(desk.undo())
                book.at -= 1
        elif kind < 0.45:
            if book.at == len(book.pages) - 1:
                self.raises(BadBook, "again", desk.again)
            else:
                self.assertIsNone(desk.again())
                book.at += 1
        else:
            name, arguments, change = self.some_change(chance, book)
            if change is None:
                with self.assertRaises(DeepError):
                    getattr(desk, name)(*arguments)
            else:
                self.assertIsNone(getattr(desk, name)(*arguments))
                book.turn(**change)
        self.assertEqual(desk.told, book.told())
        self.assertEqual(desk.aims(), book.page[2])

    def test_drawn_changes(self):
        chance = seeded(510)
        for _ in range(40):
            system = small_system(chance, chance.randrange(2, 6))
            foe, phrase = some_foe(chance, system.many, 3), small_phrase(chance, system, 5)
            desk, book = Desk(system, foe, phrase, 5), Book(system, foe, phrase, 5)
            for _ in range(40):
                self.step(chance, desk, book)
            self.check_answers(chance, desk, book)

    def check_answers(self, chance, desk, book):
        """The desk answers as one that is made new, and as the functions do."""
        foe, phrase, aims = book.page
        fresh = Desk(book.system, foe, phrase, book.nonce)
        for aim in aims:
            fresh.want(aim)
        self.assertEqual(fresh.told, desk.told)
        other = Desk.from_told(desk.told)
        self.assertEqual(other.told, desk.told)
        aim = chance.choice(aims_of_phrase(phrase, book.system.many))
        for one in (desk, fresh, other):
            self.assertIs(one.opens(aim), is_open(book.system, foe, phrase, aim))
            self.assertIs(one.taken(list(aim)), taken_way(book.system, foe, phrase, aim) is not None)
            self.assertEqual(one.mend(aim), mend_told(book.system, foe, phrase, aim))
            way = open_way(book.system, foe, phrase, aim)
            self.assertEqual(one.paper(aim), way if way is not None else peels_of(book.system, foe, phrase, aim))

    def test_two_hundred_changes_all_undone_and_done_again(self):
        chance = seeded(511)
        system = small_system(chance, 5)
        foe, phrase = some_foe(chance, 5, 3), small_phrase(chance, system, 5)
        desk, book = Desk(system, foe, phrase, 0), Book(system, foe, phrase, 0)
        while book.at < 200:
            name, arguments, change = self.some_change(chance, book)
            if change is not None:
                getattr(desk, name)(*arguments)
                book.turn(**change)
        self.assertEqual(desk.told, book.told())
        for at in range(199, -1, -1):
            desk.undo()
            book.at = at
            self.assertEqual(desk.told, book.told())
        self.raises(BadBook, "undo", desk.undo)
        for at in range(1, 201):
            desk.again()
            book.at = at
            self.assertEqual(desk.told, book.told())
        self.raises(BadBook, "again", desk.again)

    def test_a_change_that_changes_nothing_is_one(self):
        desk = some_desk()
        desk.set_foe(Foe.of_lot([0, 1, 1]))
        desk.put_out(0)
        desk.set_phrase(PHRASE)
        for _ in range(3):
            desk.undo()
        self.raises(BadBook, "undo", desk.undo)
        for _ in range(3):
            desk.again()
        self.raises(BadBook, "again", desk.again)

    def test_a_refused_change_forgets_nothing(self):
        desk = some_desk()
        desk.want((1, 0))
        desk.want((2, 1))
        desk.undo()
        before = desk.told
        self.raises(BadBook, "aim", desk.want, (1, 0))
        self.raises(BadBook, "aim", desk.set_phrase, phrase_from("@0(!)"))
        self.raises(BadNumber, "part", desk.put_out, 3)
        self.raises(BadFoe, "rules", desk.add_rule, None, 0)
        self.raises(BadPhrase, "part", desk.add_look, 3, 3)
        self.raises(BadFoe, "many", desk.set_foe, Foe(2, [], []))
        self.assertEqual(desk.told, before)
        desk.again()
        self.assertEqual(desk.aims(), ((1, 0), (2, 1)))
        desk.undo()
        desk.want((0, None))
        self.raises(BadBook, "again", desk.again)


class Told(Case):

    def test_there_and_back(self):
        desk = some_desk()
        desk.want((2, 1))
        desk.want((0, None))
        for told in (desk.told, list(desk.told), [*desk.told[:4], [[2, 1], [0, None]]]):
            other = Desk.from_told(told)
            self.assertEqual(other.told, desk.told)
            self.raises(BadBook, "undo", other.undo)
            self.raises(BadBook, "again", other.again)
            other.drop((2, 1))
            other.undo()
            self.assertEqual(other.told, desk.told)
        self.assertEqual(desk.told[4], ((2, 1), (0, None)))

    def test_errors_in_their_order(self):
        right = list(some_desk().told)
        for value in NO_LISTS + [[], right[:4], right + [()], [*right[:4], None], [*right[:4], "01"], [None] * 5]:
            self.raises(BadBook, "told", Desk.from_told, value)
        nothing = [None, None, None, None, []]
        for k in range(3):
            for value in NO_TEXTS:
                self.raises(BadText, 0, Desk.from_told, right[:k] + [value] + nothing[k + 1:])
        self.raises(BadText, 4, Desk.from_told, [right[0] + "\n"] + nothing[1:])
        self.raises(BadText, 3, Desk.from_told, [right[0], right[1] + " 3"] + nothing[2:])
        self.raises(BadText, 16, Desk.from_told, right[:2] + [right[2] + "!"] + nothing[3:])
        self.raises(BadPhrase, "part", Desk.from_told, [right[0], "parts 2\nearly\nrules\nstuck", "@0(0>3)", None, [None]])
        self.raises(BadFoe, "many", Desk.from_told, [right[0], "parts 2\nearly\nrules\nstuck", right[2], None, [None]])
        for value in NO_INTEGERS + [-1, 1000000001]:
            self.raises(BadNumber, "nonce", Desk.from_told, right[:3] + [value, [None]])
        for aim in (None, (1, 1), [3, None], ODD):
            with self.assertRaises(BadAim):
                Desk.from_told(right[:4] + [[(1, 0), aim, (1, 0)]])
        self.raises(BadBook, "aim", Desk.from_told, right[:4] + [[(1, 0), [1, 0], None]])
        told = [*right[:4], [[1, 0]]]
        Desk.from_told(told).drop((1, 0))
        self.assertEqual(told[4], [[1, 0]])

    def test_too_many_rows(self):
        system = System(1, [0] * 8, [[]] * 8, [0])
        phrase = Ask(0, beside(*[Look(0, k) for k in range(1, 8)]))
        desk = Desk(system, Foe(8, [], []), phrase, 0)
        for call in (desk.opens, desk.taken, desk.paper, desk.mend):
            self.raises(TooMany, "rows", call, (1, None))
        small = Desk(system, Foe(8, [], []), phrase_from("@0(0>1)"), 0)
        self.raises(TooMany, "parts", small.mend, (1, None))
        self.assertIs(small.opens((1, None)), False)


if __name__ == "__main__":
    unittest.main()
