"""Tours and wandering foes by the words of section 13: all unheard ways by listing them, the greatest by walking."""

from deeplooks.foes import Foe
from tests.asked import some_pairs
from tests.helpers import all_subsets
from tests.slowsieve import one_place


def some_wanderer(chance, many, most=5, single=False):
    """A foe that can wander."""
    rules = []
    for _ in range(chance.randrange(most + 1)):
        premise = chance.sample(range(many), 1 if single else chance.choice([1, 1, min(2, many)]))
        rules.append((premise, chance.randrange(many)))
    return Foe(many, [p for p in range(many) if chance.random() < 0.5], rules)


def some_tour(chance, many, rows=4, looks=8):
    """A tour of at most so many rows of at most so many looks."""
    return [some_pairs(chance, many, chance.randrange(looks + 1)) for _ in range(chance.randrange(1, rows + 1))]


def some_case(chance, most=6, rows=3, looks=4, single=False):
    """A system, a foe, a tour and a pace."""
    many = chance.randrange(1, most + 1)
    foe = some_wanderer(chance, many, single=single)
    return one_place(chance, many), foe, some_tour(chance, many, rows, looks), chance.randrange(4)


def spread_by_the_words(foe, parts, pace):
    """wave of point 21, so many times."""
    held = set(parts)
    for _ in range(pace):
        held = held | {p for q, p in foe.rules if set(q) <= held}
    return held


def left_by_the_words(system, foe, row, parts):
    """What is left behind the row, without a pause."""
    held = set(parts)
    for a, b in row:
        if not set(system.needs[a]) & held:
            held.discard(b)
    return held


def sets_by_the_words(system, foe, tour, pace, rounds, start=None):
    """S_0 .. S_rounds."""
    found = [set(foe.early if start is None else start)]
    for i in range(1, rounds + 1):
        row = tour[(i - 1) % len(tour)]
        found.append(left_by_the_words(system, foe, row, spread_by_the_words(foe, found[-1], pace)))
    return found


def inner(parts):
    """All sets inside the parts, as frozensets."""
    return [frozenset(held) for held in all_subsets(sorted(parts))]


def ends_of_round(system, foe, row, pace, before):
    """All bad sets that an unheard round can leave behind, if it begins its pause with this one."""
    front = set(inner(spread_by_the_words(foe, before, pace)))
    for a, b in row:
        states = {state for paused in front for state in inner(paused)}
        front = {state for state in states if b not in state or set(system.needs[a]) & state}
    return {left for state in front for left in inner(state)}


def all_left(system, foe, tour, pace, rounds):
    """For each number of rounds the union of all that unheard ways can leave behind."""
    front = set(inner(foe.early))
    found = [set(foe.early)]
    for i in range(1, rounds + 1):
        row = tour[(i - 1) % len(tour)]
        front = {left for before in front for left in ends_of_round(system, foe, row, pace, before)}
        found.append({part for held in front for part in held})
    return found
