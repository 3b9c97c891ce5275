"""Point 109: clean sets behind looks, tables that show that a phrase is shut."""

import unittest

from deeplooks.errors import BadFoe, BadLine, BadSet, TooMany
from deeplooks.events import look_order
from deeplooks.foes import Foe
from deeplooks.openness import is_open
from deeplooks.phrases import Ask, Look, beside
from deeplooks.phrasetexts import phrase_from
from deeplooks.rows import beginnings
from deeplooks.sets import least_sets
from deeplooks.sieves import clean_rows
from deeplooks.systems import System
from deeplooks.tables import is_table, step_clean, table_of
from tests.helpers import NO_LISTS, ODD, Case, all_subsets, seeded, some_set
from tests.slowopen import aims_of_phrase, free_foe, line_of, look_rows, looks_of, small_phrases, some_looks
from tests.slowruns import allowed
from tests.slowsieve import one_place, small_foes, small_systems


def step(system, foe, clean, look):
    """step(clean, look), by the words of point 109."""
    a, b = look
    rules = [q for q, p in foe.rules if p == b and b not in q]
    if all(x in clean for x in system.needs[a]) and all(any(x in clean for x in q) for q in rules):
        return tuple(sorted(set(clean) | {b}))
    return tuple(sorted(clean))


def grown(foe, start):
    """All that grows from the parts, deed by deed."""
    bad = frozenset(start)
    while True:
        more = bad | {part for (word, part), _ in allowed(foe, bad) if word == "corrupt"}
        if more == bad:
            return bad
        bad = more


def clean_sets(system, foe, phrase):
    """A dict from each beginning to all its clean sets, by going through all look rows."""
    found = {}
    for row in look_rows(phrase):
        rows = clean_rows(system, foe, line_of(phrase, row))
        for k, clean in enumerate(rows):
            found.setdefault(tuple(sorted(row[:k])), []).append(clean)
    return found


def is_table_by_the_words(system, foe, phrase, aim, table):
    """True if the dict from beginnings to families of sets is a table."""
    order, looks = look_order(system, phrase), looks_of(phrase)
    bad = grown(foe, foe.early)
    if not any(not set(clean) & bad for clean in table[()]):
        return False
    target, number = aim
    for done, sets in table.items():
        for clean in sets:
            for e in order.ready(done):
                behind = table[tuple(sorted(done + (e,)))]
                if not any(set(held) <= set(step(system, foe, clean, looks[e])) for held in behind):
                    return False
                if e == number and not (target in clean or set(system.needs[looks[e][0]]) <= set(clean)):
                    return False
            if number is None and len(done) == len(looks) and target not in clean:
                return False
    return True


class Steps(Case):

    def test_steps(self):
        chance = seeded(140)
        for _ in range(400):
            many = chance.randrange(1, 6)
            system, foe = one_place(chance, many), free_foe(chance, many)
            clean, look = some_set(chance, range(many)), (chance.randrange(many), chance.randrange(many))
            self.assertEqual(step_clean(system, foe, clean, list(look)), step(system, foe, clean, look))

    def test_errors_in_their_order(self):
        system = System(1, [0, 0], [[], []], [0])
        stuck, free = Foe(2, [], [], stuck=[0]), Foe(2, [], [])
        self.raises(BadFoe, "many", step_clean, system, Foe(3, [], [], stuck=[0]), None, None)
        self.raises(BadFoe, "stuck", step_clean, system, stuck, None, None)
        for value in NO_LISTS + [[2], [0, 0], [True], [None]]:
            self.raises(BadSet, "clean", step_clean, system, free, value, None)
        for value in NO_LISTS + [(), (0,), (0, 1, 1), (0, 2), (-1, 0), (True, 0), (0, None), ODD]:
            self.raises(BadLine, 0, step_clean, system, free, [0], value)
        clean = [1, 0]
        step_clean(system, free, clean, [0, 1])
        self.assertEqual(clean, [1, 0])


class Tables(Case):

    def check(self, chance, system, foe, phrase):
        """table_of for all aims, and is_table for what it tells and for bent ones."""
        sets = clean_sets(system, foe, phrase)
        for aim in aims_of_phrase(phrase, system.many):
            table = table_of(system, foe, phrase, list(aim))
            shut = not is_open(system, foe, phrase, aim)
            self.assertEqual(table is not None, shut)
            if table is None:
                self.assertIs(is_table(system, foe, phrase, aim, [(done, least_sets(held)) for done, held in sets.items()]),
                              False)
                continue
            self.assertIs(type(table), list)
            order = look_order(system, phrase)
            self.assertEqual(table, [(done, least_sets(sets[done])) for done in beginnings(order)])
            self.assertIs(is_table(system, foe, phrase, aim, table), True)
            # All clean sets are a table too, and each set may be told twice and in any order.
            whole = [[list(reversed(done)), [list(held) for held in sets[done]] * 2] for done in reversed(sets)]
            self.assertIs(is_table(system, foe, phrase, aim, whole), True)
            for _ in range(3):
                self.check_bent(chance, system, foe, phrase, aim, table)

    def check_bent(self, chance, system, foe, phrase, aim, table):
        """A table with one family changed is one exactly if point 109 says so."""
        told = {done: list(held) for done, held in table}
        done = chance.choice(list(told))
        kind = chance.randrange(3)
        if kind == 0 and told[done]:
            told[done].pop(chance.randrange(len(told[done])))
        elif kind == 1:
            told[done].append(chance.choice(all_subsets(range(system.many))))
        else:
            told[done] = [chance.choice(all_subsets(range(system.many)))]
        right = is_table_by_the_words(system, foe, phrase, aim, told)
        self.told[right] = self.told.get(right, 0) + 1
        self.assertIs(is_table(system, foe, phrase, aim, tuple(told.items())), right)

    def test_small_ones_whole(self):
        chance = seeded(141)
        self.told = {}
        phrases = list(small_phrases(2))
        for foe in small_foes():
            if foe.stuck == ():
                for system in small_systems():
                    for phrase in chance.sample(phrases, 4):
                        self.check(chance, system, foe, phrase)
        self.assertGreater(min(self.told.values()), 200)

    def test_larger_ones(self):
        chance = seeded(142)
        self.told = {}
        for _ in range(100):
            many = chance.randrange(2, 6)
            system = one_place(chance, many)
            self.check(chance, system, free_foe(chance, many), some_looks(chance, many, 5))
        self.assertGreater(min(self.told.values()), 100)

    def test_phrases_without_looks(self):
        system, phrase = System(1, [0, 0], [[], []], [0]), phrase_from("@0(!)")
        self.assertEqual(table_of(system, Foe(2, [1], []), phrase, (0, None)), [((), [(0,)])])
        self.assertIsNone(table_of(system, Foe(2, [1], []), phrase, (1, None)))

    def test_more_rows_than_are_gone_through(self):
        # Ten looks together have 3628800 rows; the beginnings are 1024.
        phrase = Ask(0, beside(*[Look(k % 8, (k + 1) % 8) for k in range(10)]))
        system, foe = System(1, [0] * 8, [[]] * 8, [0]), Foe(8, [1, 2], [([1], 2), ([2], 3)])
        table = table_of(system, foe, phrase, (7, None))
        self.assertEqual(len(table), 1024)
        self.assertIs(is_table(system, foe, phrase, (7, None), table), True)
        self.assertIs(is_table(system, foe, phrase, (7, None), table[:-1]), False)
        self.assertIsNone(table_of(system, foe, phrase, (3, None)))
        self.raises(TooMany, "rows", is_open, system, foe, phrase, (7, None))

    def test_values_of_any_kind(self):
        system, foe, phrase = System(1, [0, 0], [[], []], [0]), Foe(2, [1], []), phrase_from("@0(0>1)")
        right = [((), [(0,)]), ((0,), [(0, 1)])]
        self.assertIs(is_table(system, foe, phrase, (1, None), right), True)
        wrong = [[], right[:1], right + right[:1], [right[0], None], [right[0], (0,)], [right[0], ((0,), [(0, 1)], 0)],
                 [right[0], ((1,), [(0, 1)])], [right[0], ((0,), None)], [right[0], ((0,), [None])], [right[0], ODD],
                 [right[0], ((0,), [(0, 2)])], [right[0], ((0,), [(0, 0)])], [right[0], ((False,), [(0, 1)])],
                 [right[0], ((0,), [(False, 1)])], [right[0], (0, [(0, 1)])], [right[0], ((0,), (0, 1))], dict(right)]
        for value in NO_LISTS + wrong:
            self.assertIs(is_table(system, foe, phrase, (1, None), value), False)

    def test_what_is_no_beginning(self):
        system, foe, phrase = System(1, [0, 0], [[], []], [0]), Foe(2, [1], []), phrase_from("@0((0>1 -> 0>1))")
        right = [((), [(0,)]), ((0,), [(0, 1)]), ((0, 1), [(0, 1)])]
        self.assertEqual(table_of(system, foe, phrase, (1, None)), right)
        self.assertIs(is_table(system, foe, phrase, (1, None), [right[0], ((1,), [(0, 1)]), right[2]]), False)
        self.assertIs(is_table(system, foe, phrase, (1, None), right + [((1,), [(0, 1)])]), False)
        table_of(system, foe, phrase, (1, None))[0][1].clear()
        table_of(system, foe, phrase, (1, None)).clear()
        self.assertEqual(table_of(system, foe, phrase, (1, None)), right)

    def test_stuck_comes_behind_the_aim(self):
        system, foe = System(1, [0, 0], [[], []], [0]), Foe(2, [1], [], stuck=[0])
        self.raises(BadFoe, "stuck", table_of, system, foe, phrase_from("@0(0>1)"), (1, 0))
        self.raises(BadFoe, "stuck", is_table, system, foe, phrase_from("@0(0>1)"), (1, 0), None)


if __name__ == "__main__":
    unittest.main()
