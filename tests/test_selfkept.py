"""Points 154 and 155: kept sets, rows that clean, reasons, least kept lots."""

import unittest

from deeplooks.errors import BadLot, BadNumber, BadSet, TooMany
from deeplooks.selfkept import cleaning_row, greatest_kept, is_kept, kept_reason, least_kept_lots
from deeplooks.strength import clean_end
from deeplooks.systems import System
from tests.asked import clean_for_good, cleaned, single_looks, some_lot, some_pairs, wrong_levels, wrong_looks
from tests.helpers import NO_INTEGERS, NO_LISTS, ODD, Case, all_subsets, seeded
from tests.slowopen import all_lots, all_needs, is_above
from tests.slowsieve import one_place


def kept(system, looks, levels, parts):
    """True if the parts are kept, straight from point 154."""
    if any(levels[part] == 0 for part in parts):
        return False
    return all(set(system.needs[a]) & set(parts) for a, b in looks if b in parts and levels[b] == 1)


class KeptSets(Case):

    def check(self, system, looks, levels):
        """All sets of parts, the greatest kept set, rows and reasons."""
        many = system.many
        every = [parts for parts in all_subsets(range(many)) if kept(system, looks, levels, parts)]
        union = tuple(sorted({part for parts in every for part in parts}))
        self.assertEqual(greatest_kept(system, looks, levels), union)
        self.assertIn(union, every)
        for parts in all_subsets(range(many)):
            self.assertIs(is_kept(system, looks, levels, list(parts)[::-1]), parts in every)
        self.assertEqual(set(range(many)) - set(union), clean_for_good(system, levels, looks))
        for part in range(many):
            self.check_row(system, looks, levels, part, union)
        for parts in every:
            if parts:
                self.check_reason(system, looks, levels, parts)

    def check_row(self, system, looks, levels, part, union):
        """A row that makes the part clean, if there is one."""
        row = cleaning_row(system, looks, levels, part)
        self.assertEqual(row is None, part in union)
        if row is not None:
            self.assertIs(type(row), tuple)
            self.assertLessEqual(len(row), system.many)
            self.assertTrue(all(look in [tuple(one) for one in looks] for look in row))
            self.assertTrue(all(type(look) is tuple for look in row))
            self.assertIn(part, cleaned(system, levels, row)[-1])
            self.assertEqual(row == (), levels[part] == 0)

    def check_reason(self, system, looks, levels, parts):
        """The first word that fits, and what is shown."""
        word, shown = kept_reason(system, looks, levels, parts)
        targets = [b for _, b in looks]
        late = [part for part in parts if levels[part] == 2]
        unlooked = [part for part in parts if part not in targets]
        void = [part for part in parts if any(b == part and b in system.needs[a] for a, b in looks)]
        for told, fits in (("late", late), ("unlooked", unlooked), ("void", void)):
            if fits:
                self.assertEqual((word, shown), (told, (min(fits),)))
                break
        else:
            self.assertEqual(word, "ring")
            self.assertIs(type(shown), tuple)
            self.assertGreater(len(shown), 1)
            self.assertEqual(len(set(shown)), len(shown))
            self.assertTrue(set(shown) <= set(parts))
            for k, part in enumerate(shown):
                following = shown[(k + 1) % len(shown)]
                self.assertTrue(any(b == part and following in system.needs[a] for a, b in looks))
        self.words[word] = self.words.get(word, 0) + 1

    def test_drawn_ones(self):
        self.words = {}
        chance = seeded(340)
        for _ in range(250):
            many = chance.randrange(1, 7)
            looks = some_pairs(chance, many, chance.randrange(1, 9))
            self.check(one_place(chance, many), looks, some_lot(chance, many, chance.choice([1, 1, 2])))
        self.assertGreater(min(self.words[word] for word in ("late", "unlooked", "void")), 100)

    def test_rings(self):
        self.words = {}
        chance = seeded(341)
        for _ in range(120):
            many = chance.randrange(2, 7)
            needs = [[chance.randrange(many) for _ in range(1)] for _ in range(many)]
            looks = [(chance.choice([a for a in range(many) if a != b]), b) for b in range(many)]
            self.check(System(1, [0] * many, needs, [0]), looks, [1] * many)
        self.assertGreater(self.words["ring"], 100)

    def test_small_ones_whole(self):
        self.words = {}
        every = [(a, b) for a in range(2) for b in range(2)]
        for system in all_needs(2):
            for chosen in all_subsets(range(4)):
                for levels in all_lots(2) if chosen else ():
                    self.check(system, [every[k] for k in chosen], levels)
        self.assertEqual(set(self.words), {"late", "unlooked", "void", "ring"})

    def test_looks_that_make_nothing_clean_are_left_out(self):
        system = System(1, [0] * 4, [[]] * 4, [0])
        looks = [(0, 0), (3, 2), (0, 0), (2, 1), (0, 0), (1, 0), (0, 0)]
        self.assertEqual(cleaning_row(system, looks, [1, 1, 1, 0], 0), ((3, 2), (2, 1), (1, 0)))
        self.assertEqual(cleaning_row(system, looks, [1, 1, 1, 0], 1), ((3, 2), (2, 1)))

    def test_two_kept_sets_joined(self):
        chance = seeded(342)
        for _ in range(100):
            many = chance.randrange(2, 7)
            system, looks = one_place(chance, many), some_pairs(chance, many, 6)
            levels = some_lot(chance, many)
            every = [parts for parts in all_subsets(range(many)) if is_kept(system, looks, levels, parts)]
            one, other = chance.choice(every), chance.choice(every)
            self.assertIs(is_kept(system, looks, levels, sorted(set(one) | set(other))), True)
            self.assertIs(is_kept(system, looks, levels, ()), True)

    def test_no_row_makes_a_kept_part_clean(self):
        chance = seeded(343)
        for _ in range(150):
            many = chance.randrange(2, 8)
            system, looks = one_place(chance, many), some_pairs(chance, many, 6)
            levels = some_lot(chance, many)
            row = [chance.choice(looks) for _ in range(40)]
            self.assertEqual(set(clean_end(system, row, levels)) & set(greatest_kept(system, looks, levels)), set())

    def test_errors_in_their_order(self):
        system, looks = System(1, [0] * 3, [[]] * 3, [0]), [(0, 1), (1, 2)]
        for value in wrong_looks(3):
            self.raises(BadSet, "looks", is_kept, system, value, None, None)
            self.raises(BadSet, "looks", greatest_kept, system, value, None)
            self.raises(BadSet, "looks", cleaning_row, system, value, None, None)
            self.raises(BadSet, "looks", kept_reason, system, value, None, None)
            self.raises(BadSet, "looks", least_kept_lots, system, value, None)
        for value, place in wrong_levels(3):
            self.raises(BadLot, place, is_kept, system, looks, value, None)
            self.raises(BadLot, place, greatest_kept, system, looks, value)
            self.raises(BadLot, place, cleaning_row, system, looks, value, None)
            self.raises(BadLot, place, kept_reason, system, looks, value, None)
        for value in NO_LISTS + [[3], [-1], [0, 0], [True], [None], [ODD]]:
            self.raises(BadSet, "parts", is_kept, system, looks, [1, 1, 1], value)
            self.raises(BadSet, "parts", kept_reason, system, looks, [1, 1, 1], value)
        for value in ((), [], [1], [2], [0, 2]):
            self.raises(BadSet, "parts", kept_reason, system, looks, [1, 1, 1], value)
        self.assertEqual(kept_reason(system, looks, [1, 1, 1], [0, 1]), ("unlooked", (0,)))
        for value in NO_INTEGERS + [-1, 3]:
            self.raises(BadNumber, "part", cleaning_row, system, looks, [1, 1, 1], value)
            self.raises(BadNumber, "part", least_kept_lots, system, looks, value)
        seven = System(1, [0] * 7, [[]] * 7, [0])
        self.raises(BadNumber, "part", least_kept_lots, seven, looks, 7)
        self.raises(TooMany, "parts", least_kept_lots, seven, looks, 6)
        looks, levels, parts = [[0, 1], (1, 2)], [1, 1, 1], [1, 0]
        kept_reason(system, looks, levels, parts)
        cleaning_row(system, looks, levels, 1)
        self.assertEqual((looks, levels, parts), ([[0, 1], (1, 2)], [1, 1, 1], [1, 0]))


class LeastKeptLots(Case):

    def check(self, system, looks, part):
        """The least lots of those in whose greatest kept set the part is, by trying all."""
        lots = [lot for lot in all_lots(system.many) if part not in clean_for_good(system, lot, looks)]
        right = [lot for lot in lots if not any(other != lot and is_above(lot, other) for other in lots)]
        found = least_kept_lots(system, looks, part)
        self.assertIs(type(found), list)
        self.assertEqual(found, right)
        for lot in all_lots(system.many):
            inside = part in greatest_kept(system, looks, lot)
            self.assertIs(inside, any(is_above(lot, low) for low in found))
        return found

    def test_drawn_ones(self):
        chance = seeded(344)
        for _ in range(60):
            many = chance.randrange(1, 5)
            self.check(one_place(chance, many), some_pairs(chance, many, chance.randrange(1, 9)), chance.randrange(many))

    def test_shapes_where_each_part_is_looked_at_once(self):
        chance = seeded(345)
        for _ in range(60):
            many = chance.randrange(2, 6)
            system, looks = one_place(chance, many), single_looks(chance, many, chance.randrange(1, many + 1))
            part = chance.randrange(many)
            measurer = {b: a for a, b in looks}
            for lot in least_kept_lots(system, looks, part):
                self.assertTrue(any(self.is_chain(system, measurer, lot, [part])), (lot, looks))

    def is_chain(self, system, measurer, lot, chain):
        """Whether the lot has the shape of point 155 for some chain that begins so."""
        held = [part for part, level in enumerate(lot) if level > 0]
        last = chain[-1]
        if sorted(chain) == held and all(lot[part] == 1 and part in measurer for part in chain[:-1]):
            void = last in measurer and last in system.needs[measurer[last]]
            back = last in measurer and set(system.needs[measurer[last]]) & set(chain[:-1])
            yield lot[last] == 2 or lot[last] == 1 and (last not in measurer or void or bool(back))
        if last in measurer:
            for further in system.needs[measurer[last]]:
                if further not in chain:
                    yield from self.is_chain(system, measurer, lot, chain + [further])

    def test_six_parts(self):
        system = System(1, [0] * 6, [[1], [2], [3], [4], [5], [0]], [0])
        looks = [(k, (k + 3) % 6) for k in range(6)] + [(0, 0), (1, 5)]
        found = least_kept_lots(system, looks, 3)
        lots = [lot for lot in all_lots(6) if 3 in greatest_kept(system, looks, lot)]
        for lot in lots:
            self.assertTrue(any(is_above(lot, low) for low in found))
        for lot in found:
            self.assertIn(lot, lots)
            for k in range(6):
                if lot[k]:
                    lower = lot[:k] + (lot[k] - 1,) + lot[k + 1:]
                    self.assertNotIn(lower, lots)

    def test_lists_are_new(self):
        system, looks = System(1, [0, 0, 0], [[2], [], []], [0]), [(0, 1), (1, 2)]
        least_kept_lots(system, looks, 1).clear()
        self.assertEqual(least_kept_lots(system, looks, 1), [(0, 1, 1), (0, 2, 0), (1, 1, 0)])


if __name__ == "__main__":
    unittest.main()
