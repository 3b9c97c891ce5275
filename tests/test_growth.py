"""Point 21: grow, closed sets, wave."""

import unittest

from deeplooks.errors import BadSet
from deeplooks.foes import Foe
from deeplooks.growth import grow, grow_steps, is_closed, wave
from tests.helpers import NO_LISTS, Case, all_foes, all_subsets, seeded, some_foe, some_set


def closed(foe, parts, barred):
    """Closed, straight from the words of point 21."""
    return not any(set(q) <= set(parts) and p not in parts and p not in barred for q, p in foe.rules)


def slow_grow(foe, start, barred):
    """What all closed sets that hold start have in common."""
    found = set(range(foe.many))
    for parts in all_subsets(range(foe.many)):
        if set(start) <= set(parts) and closed(foe, parts, barred):
            found &= set(parts)
    return tuple(sorted(found))


def some_cases(seed, count):
    """Foes of any size, each with two sets."""
    chance = seeded(seed)
    for _ in range(count):
        many = chance.randrange(1, 6)
        yield some_foe(chance, many, 8), some_set(chance, range(many)), some_set(chance, range(many))


class Growth(Case):

    def check(self, foe, start, barred):
        """All that is said of one case."""
        found = grow(foe, start, barred)
        self.is_tuple_set(found)
        self.assertEqual(found, slow_grow(foe, start, barred))
        steps = grow_steps(foe, start, barred)
        self.assertIs(type(steps), tuple)
        held = set(start)
        for rule in steps:
            self.assertIn(rule, foe.rules)
            premise, part = rule
            self.assertTrue(set(premise) <= held and part not in held and part not in barred)
            held.add(part)
        self.assertEqual(tuple(sorted(held)), found)
        self.assertTrue(is_closed(foe, found, barred))
        self.assertEqual(grow(foe, found, barred), found)

    def test_whole_small_foes(self):
        sets = all_subsets(range(2))
        for foe in all_foes(2):
            if foe.early == () and foe.stuck == ():
                for start in sets:
                    for barred in sets:
                        self.check(foe, start, barred)
                    self.assertIs(is_closed(foe, start), closed(foe, start, ()))

    def test_larger_foes(self):
        for foe, start, barred in some_cases(11, 300):
            self.check(foe, start, barred)
            self.assertIs(is_closed(foe, start, barred), closed(foe, start, barred))
            step = set(start) | {p for q, p in foe.rules if set(q) <= set(start)}
            self.assertEqual(wave(foe, start), tuple(sorted(step)))

    def test_outside_if_a_closed_set_tells_it(self):
        for foe, start, barred in some_cases(12, 60):
            found = grow(foe, start, barred)
            for part in range(foe.many):
                told = any(set(start) <= set(parts) and part not in parts and is_closed(foe, parts, barred)
                           for parts in all_subsets(range(foe.many)))
                self.assertEqual(part not in found, told)

    def test_facts(self):
        for foe, start, barred in some_cases(13, 150):
            chance = seeded(len(start) + 7 * len(barred))
            more = sorted(set(start) | set(some_set(chance, range(foe.many))))
            found = grow(foe, start, barred)
            self.assertTrue(set(found) <= set(grow(foe, more, barred)))
            self.assertEqual(grow(foe, more, barred), grow(foe, sorted(set(found) | set(more)), barred))
            self.assertTrue(set(grow(foe, start, barred)) <= set(grow(foe, start, barred[1:])))
            outside = [part for part in range(foe.many) if part not in found]
            self.assertEqual(grow(foe, start, sorted(set(barred) | set(outside))), found)
            self.assertTrue(set(found) <= set(grow(foe | some_foe(chance, foe.many, 3), start, barred)))

    def test_barred_parts_of_start_stay(self):
        foe = Foe(3, [], [([0], 1), ([1], 2)])
        self.assertEqual(grow(foe, [0, 1], [1]), (0, 1, 2))
        self.assertEqual(grow(foe, [0], [1]), (0,))
        self.assertEqual(grow(foe, [0]), (0, 1, 2))
        self.assertEqual(grow(foe, []), ())

    def test_own_part_in_the_premise(self):
        foe = Foe(2, [], [([0, 1], 1)])
        self.assertEqual(grow(foe, [0]), (0,))
        self.assertEqual(grow_steps(foe, [0]), ())
        self.assertTrue(is_closed(foe, [0]))
        self.assertTrue(is_closed(foe, [0, 1]))
        self.assertEqual(wave(foe, [0]), (0,))
        self.assertEqual(wave(foe, [0, 1]), (0, 1))

    def test_wave_is_one_step(self):
        foe = Foe(3, [], [([], 0), ([0], 1), ([1], 2)])
        self.assertEqual(wave(foe, []), (0,))
        self.assertEqual(wave(foe, [0]), (0, 1))
        self.assertEqual(wave(foe, [1]), (0, 1, 2))

    def test_refused(self):
        foe = Foe(2, [], [([], 0)])
        for value in NO_LISTS + [[2], [-1], [0, 0], [True], ["0"], [None]]:
            self.raises(BadSet, "start", grow, foe, value)
            self.raises(BadSet, "start", grow, foe, value, value)
            self.raises(BadSet, "barred", grow, foe, [0], value)
            self.raises(BadSet, "start", grow_steps, foe, value, value)
            self.raises(BadSet, "barred", grow_steps, foe, [0], value)
            self.raises(BadSet, "parts", is_closed, foe, value, value)
            self.raises(BadSet, "barred", is_closed, foe, [0], value)
            self.raises(BadSet, "start", wave, foe, value)

    def test_changes_nothing(self):
        foe = Foe(2, [], [([], 1)])
        start, barred = [0], [1]
        grow(foe, start, barred)
        grow_steps(foe, start)
        is_closed(foe, start, barred)
        wave(foe, start)
        self.assertEqual((start, barred, foe.rules), ([0], [1], (((), 1),)))


if __name__ == "__main__":
    unittest.main()
