"""Points 1, 5 and 6: integers, sets, families, meeting sets."""

import unittest

from deeplooks.errors import BadNumber, BadSet, TooMany
from deeplooks.sets import (check_number, common, inside, is_int, joined, least_sets, meeting_sets,
                            set_of, short_first, subsets, without)
from tests.helpers import NO_INTEGERS, NO_LISTS, Case, all_subsets, seeded


def slow_least(family):
    """The least sets, straight from the words of point 5."""
    found = {tuple(sorted(one)) for one in family
             if not any(set(other) < set(one) for other in family)}
    return sorted(found, key=lambda one: (len(one), one))


def slow_meeting(family, members):
    """The meeting sets, straight from the words of point 6."""
    return slow_least([one for one in all_subsets(members) if all(set(one) & set(f) for f in family)])


class Integers(Case):

    def test_is_int(self):
        for value in (0, 1, -1, 7, 10 ** 60, -10 ** 60):
            self.assertIs(is_int(value), True)
        for value in NO_INTEGERS:
            self.assertIs(is_int(value), False)

    def test_check_number(self):
        self.assertEqual(check_number(3, 0, 3, "x"), 3)
        self.assertEqual(check_number(0, 0, 3, "x"), 0)
        self.assertEqual(check_number(-2, -2, None, "x"), -2)
        self.assertEqual(check_number(10 ** 50, 0, None, "x"), 10 ** 50)
        self.raises(BadNumber, "x", check_number, 4, 0, 3, "x")
        self.raises(BadNumber, "y", check_number, -1, 0, 3, "y")
        self.raises(BadNumber, "y", check_number, -1, 0, None, "y")
        self.raises(BadNumber, "y", check_number, 0, 1, 0, "y")
        for value in NO_INTEGERS:
            self.raises(BadNumber, "z", check_number, value, 0, 3, "z")
            self.raises(BadNumber, "z", check_number, value, 0, None, "z")


class Sets(Case):

    def test_set_of(self):
        self.assertEqual(set_of([2, 0, 1], 3, "x"), (0, 1, 2))
        self.assertEqual(set_of((2, 0), 3, "x"), (0, 2))
        self.assertEqual(set_of([], 0, "x"), ())
        self.assertEqual(set_of((), 3, "x"), ())
        given = [2, 1]
        found = set_of(given, 3, "x")
        given.append(0)
        self.assertEqual((found, given), ((1, 2), [2, 1, 0]))

    def test_set_of_refuses(self):
        for value in NO_LISTS:
            self.raises(BadSet, "x", set_of, value, 8, "x")
        for member in NO_INTEGERS + [-1, 3, 10 ** 30]:
            self.raises(BadSet, "x", set_of, [0, member], 3, "x")
            self.raises(BadSet, "x", set_of, (member,), 3, "x")
        self.raises(BadSet, "x", set_of, [0, 1, 0], 3, "x")
        self.raises(BadSet, "x", set_of, [0], 0, "x")

    def test_two_sets(self):
        for one in all_subsets(range(4)):
            for other in all_subsets(range(4)):
                for found, right in ((joined(one, other), set(one) | set(other)),
                                     (common(one, other), set(one) & set(other)),
                                     (without(one, other), set(one) - set(other))):
                    self.is_tuple_set(found)
                    self.assertEqual(set(found), right)
                self.assertIs(inside(one, other), set(one) <= set(other))

    def test_short_first(self):
        family = [(1, 2), (0, 5), (), (3,), (1, 2), (0,), (0, 1, 2)]
        kept = list(family)
        self.assertEqual(short_first(family), [(), (0,), (3,), (0, 5), (1, 2), (0, 1, 2)])
        self.assertEqual(short_first(tuple(family)), short_first(family))
        self.assertEqual(family, kept)
        self.assertEqual(short_first([]), [])
        self.assertEqual(short_first([(0, 9), (0, 10), (0, 2)]), [(0, 2), (0, 9), (0, 10)])

    def test_subsets(self):
        self.assertEqual(subsets(()), [()])
        self.assertEqual(subsets((1, 4)), [(), (1,), (4,), (1, 4)])
        for many in range(11):
            found = subsets(tuple(range(many)))
            self.assertEqual(found, all_subsets(range(many)))
        self.raises(TooMany, "members", subsets, tuple(range(11)))

    def test_least_sets(self):
        self.assertEqual(least_sets([(0, 1), (1,), (0, 2), (1,), (0, 1, 2)]), [(1,), (0, 2)])
        self.assertEqual(least_sets([]), [])
        self.assertEqual(least_sets([(0,), ()]), [()])
        chance = seeded(1)
        for _ in range(300):
            family = [tuple(sorted(chance.sample(range(5), chance.randrange(5)))) for _ in range(6)]
            kept = list(family)
            self.assertEqual(least_sets(family), slow_least(family))
            self.assertEqual(least_sets(tuple(family)), slow_least(family))
            self.assertEqual(family, kept)


class Meeting(Case):

    def test_edges(self):
        self.assertEqual(meeting_sets([], (0, 1)), [()])
        self.assertEqual(meeting_sets([], ()), [()])
        self.assertEqual(meeting_sets([()], (0, 1)), [])
        self.assertEqual(meeting_sets([(2,)], (0, 1)), [])
        self.assertEqual(meeting_sets([(0,), (5,)], (0, 1)), [])
        self.assertEqual(meeting_sets([(0, 3)], (0, 1)), [(0,)])

    def test_against_the_words_of_the_point(self):
        chance = seeded(2)
        for _ in range(400):
            family = [tuple(sorted(chance.sample(range(6), chance.randrange(1, 4))))
                      for _ in range(chance.randrange(6))]
            members = tuple(sorted(chance.sample(range(6), chance.randrange(7))))
            kept = list(family)
            found = meeting_sets(family, members)
            self.assertEqual(found, slow_meeting(family, members))
            self.assertEqual(meeting_sets(tuple(family), members), found)
            self.assertEqual(family, kept)
            for one in all_subsets(members):
                meets_all = all(set(one) & set(f) for f in family)
                self.assertEqual(meets_all, any(inside(least, one) for least in found))

    def test_meeting_the_meeting_sets(self):
        chance = seeded(3)
        members = tuple(range(6))
        for _ in range(200):
            family = [tuple(sorted(chance.sample(members, chance.randrange(1, 4))))
                      for _ in range(chance.randrange(6))]
            twice = meeting_sets(meeting_sets(family, members), members)
            self.assertEqual(twice, least_sets(family))

    def test_sizes(self):
        ten = tuple(range(10))
        pairs = [(0, 1), (2, 3), (4, 5), (6, 7), (8, 9)]
        self.assertEqual(len(meeting_sets(pairs, ten)), 32)
        fives = [one for one in all_subsets(ten) if len(one) == 5]
        self.assertEqual(meeting_sets(fives, ten), [one for one in all_subsets(ten) if len(one) == 6])
        self.raises(TooMany, "members", meeting_sets, [(0,)], tuple(range(11)))
        self.raises(TooMany, "members", meeting_sets, [], tuple(range(11)))

    def test_lists_are_new(self):
        family = [(0, 1)]
        for call in (lambda: short_first(family), lambda: least_sets(family),
                     lambda: meeting_sets(family, (0, 1)), lambda: subsets((0, 1))):
            first = call()
            right = list(first)
            first.append("more")
            self.assertEqual(call(), right)
        self.assertEqual(family, [(0, 1)])


if __name__ == "__main__":
    unittest.main()
