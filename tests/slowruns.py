"""Gaps and runs gone through deed by deed, straight from points 22 to 24."""

from itertools import product

from tests.helpers import all_subsets


def allowed(foe, bad):
    """All deeds that are allowed when these parts are bad, each with the bad set behind it."""
    for part in range(foe.many):
        if part not in bad and any(p == part and set(q) <= bad for q, p in foe.rules):
            yield ("corrupt", part), bad | {part}
        if part in bad and part not in foe.stuck:
            yield ("mend", part), bad - {part}


def gap_ends(foe, before):
    """All pairs (moments, behind) of the gaps that begin with this bad set."""
    first = frozenset(before)
    found = {(first, first)}
    waiting = [(first, first)]
    while waiting:
        moments, bad = waiting.pop()
        for _, after in allowed(foe, bad):
            pair = (moments | after, after)
            if pair not in found:
                found.add(pair)
                waiting.append(pair)
    return found


def all_forms(foe, length):
    """The forms of all runs of this length, each a tuple (moments, states) of tuples of frozensets."""
    ends = {frozenset(bad): gap_ends(foe, bad) for bad in all_subsets(range(foe.many))}
    found = set()
    starts = [frozenset(start) for start in all_subsets(foe.early)]
    front = {((), (), start) for start in starts}
    for gap in range(length + 1):
        after = set()
        for moments, states, bad in front:
            for seen, behind in ends[bad]:
                if gap == length:
                    found.add(((*moments, seen), states))
                else:
                    after.add(((*moments, seen), (*states, behind), behind))
        front = after
    return found


def all_candidates(many, length):
    """All lists of sets that a Run of this length over so many parts can hold."""
    sets = all_subsets(range(many))
    for held in product(sets, repeat=2 * length + 1):
        yield held[:length + 1], held[length + 1:]
