"""What several test files use: errors, odd values, sets, things made at random from a seed."""

import random
import unittest
from itertools import chain, combinations

from deeplooks.errors import DeepError
from deeplooks.foes import Foe
from deeplooks.phrases import Ask, Branch, Look, Sign, Then
from deeplooks.systems import System


class Odd:
    """A value of no kind that any entry names."""


ODD = Odd()
NO_INTEGERS = [True, False, None, "0", "", 1.0, b"0", [], (), {}, [0], ODD]
NO_LISTS = [None, True, False, 0, 3, "01", "", {}, {0: 1}, {0}, b"01", ODD, range(2)]
NO_TEXTS = [None, True, 0, 7, b"!", ["!"], (), {}, ODD]


class Case(unittest.TestCase):
    """A test case that can ask for the errors of the package."""

    def raises(self, error, value, call, *args, **more):
        """The call raises just this error, with this name or place, and with its text."""
        with self.assertRaises(DeepError) as caught:
            call(*args, **more)
        self.assertIs(type(caught.exception), error, (str(caught.exception), args))
        field = "name" if hasattr(caught.exception, "name") else "place"
        told = getattr(caught.exception, field)
        self.assertEqual(told, value, args)
        self.assertIs(type(told), type(value), args)
        self.assertEqual(str(caught.exception), f"{error.__name__}: {value}")

    def is_tuple_set(self, value):
        """The value is a set as point 1 returns it."""
        self.assertIs(type(value), tuple)
        self.assertEqual(list(value), sorted(set(value)))
        for member in value:
            self.assertIs(type(member), int)


def all_subsets(members):
    """All subsets of the members, as tuples, short first."""
    members = sorted(members)
    return list(chain.from_iterable(combinations(members, k) for k in range(len(members) + 1)))


def all_rules(many):
    """All rules over so many parts."""
    return [(premise, part) for part in range(many) for premise in all_subsets(range(many))]


def all_foes(many):
    """All foes over so many parts: 16 for one, 4096 for two."""
    parts = all_subsets(range(many))
    rules = all_rules(many)
    for chosen in all_subsets(range(len(rules))):
        for early in parts:
            for stuck in parts:
                yield Foe(many, early, [rules[k] for k in chosen], stuck=stuck)


def some_set(chance, members):
    """A set inside members, as a list in any order."""
    found = [member for member in members if chance.random() < 0.5]
    chance.shuffle(found)
    return found


def some_foe(chance, many, most=6):
    """A foe over so many parts."""
    rules = []
    for _ in range(chance.randrange(most + 1)):
        premise = chance.sample(range(many), chance.randrange(min(many, 2) + 1))
        rules.append((premise, chance.randrange(many)))
    return Foe(many, some_set(chance, range(many)), rules, stuck=some_set(chance, range(many))[:2])


def some_system(chance):
    """A system of any size."""
    places = chance.randrange(1, 5)
    many = chance.randrange(places, 9)
    homes = list(range(places)) + [chance.randrange(places) for _ in range(many - places)]
    chance.shuffle(homes)
    needs = [chance.sample(range(many), chance.randrange(min(many, 3))) for _ in range(many)]
    managers = [chance.choice([p for p in range(many) if homes[p] == place]) for place in range(places)]
    return System(places, homes, needs, managers)


def some_phrase(chance, deep, place=None):
    """A phrase of at most this depth, over 4 places with the parts 2q and 2q + 1 at home at q.

    With a place the phrase stands there and fits as far as homes go; without, it has asks only.
    """
    if place is None:
        q = chance.randrange(4)
        return Ask(q, some_phrase(chance, deep - 1, q))
    kind = chance.random()
    if deep <= 1 or kind < 0.15:
        if chance.random() < 0.35:
            return Sign()
        return Look(2 * place + chance.randrange(2), chance.randrange(8))
    if kind < 0.3:
        q = chance.randrange(4)
        return Ask(q, some_phrase(chance, deep - 1, q))
    left = some_phrase(chance, deep - 1, place)
    right = some_phrase(chance, deep - 1, place)
    if kind < 0.6:
        return Then(left, right)
    marks = [chance.random() < p for p in (0.75, 0.75, 0.5)]
    return Branch(left, right, keep_left=marks[0], keep_right=marks[1], together=marks[2])


FOUR = System(4, [0, 0, 1, 1, 2, 2, 3, 3], [[]] * 8, [0, 2, 4, 6])


def seeded(seed):
    """A source of chance that is the same each time."""
    return random.Random(seed)


def near_texts(text, signs):
    """All texts that are one sign away: cut off, taken out, put in, changed."""
    found = {text[:k] for k in range(len(text))}
    for k in range(len(text)):
        found.add(text[:k] + text[k + 1:])
        for sign in signs:
            found.add(text[:k] + sign + text[k + 1:])
            found.add(text[:k] + sign + text[k:])
    for sign in signs:
        found.add(text + sign)
    found.discard(text)
    return sorted(found)


def longest_beginning(text, grammar, start):
    """How many signs of the text begin some text of the grammar, and if the whole is one.

    The grammar tells for each capital-letter word a list of rows of symbols; any other symbol is
    a string of which one sign is read. No word of it leads to itself on the left.
    """
    stacks = _opened({(start,)}, grammar)
    for at, sign in enumerate(text):
        moved = {stack[1:] for stack in stacks if stack and sign in stack[0]}
        if not moved:
            return at, False
        stacks = _opened(moved, grammar)
    return len(text), () in stacks


def _opened(stacks, grammar):
    """The stacks with signs or nothing on top that the stacks lead to."""
    found = set()
    waiting = list(stacks)
    while waiting:
        stack = waiting.pop()
        if not stack or stack[0] not in grammar:
            found.add(stack)
        else:
            waiting.extend(tuple(row) + stack[1:] for row in grammar[stack[0]])
    return found
