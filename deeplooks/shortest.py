"""How often a row must be gone through to be best, and the shortest rows that are best."""

from deeplooks.errors import BadLine, TooMany
from deeplooks.livepaths import live_paths
from deeplooks.lookrows import looks_once, row_among

MOST_TRIED_LOOKS = 5


def steps_against(looks, row, path):
    """The number of neighbours in the path of whom the second one is looked at first in the row."""
    return _steps(_row_of_each(looks, row), path)


def passes_needed(system, looks, row):
    """How often the row has to be gone through to be best."""
    paths = live_paths(system, looks)
    held = _row_of_each(looks, row)
    return 1 + max([_steps(held, path) for path in paths], default=0)


def shortest_best(system, looks):
    """The first, by the indexes of its looks, of the shortest best rows."""
    held = looks_once(system, looks)
    if len(held) > MOST_TRIED_LOOKS:
        raise TooMany("looks")
    paths = live_paths(system, held)
    goal = tuple([len(path) for path in paths])
    # For each state, how far each path is held, the first of the shortest rows that lead to it.
    found = {tuple([0] * len(paths)): ()}
    layer = list(found)
    while goal not in found:
        further = []
        for state in layer:
            for look in held:
                behind = _held_behind(paths, state, look[1])
                if behind not in found:
                    found[behind] = (*found[state], look)
                    further.append(behind)
        layer = further
    return found[goal]


def least_length(system, looks):
    """The number of looks of the shortest best rows."""
    return len(shortest_best(system, looks))


def _row_of_each(looks, row):
    """The row as a tuple, if it has each look once."""
    held = row_among([tuple(look) for look in looks], row)
    if sorted(held) != sorted([tuple(look) for look in looks]):
        raise BadLine(-1)
    return held


def _steps(row, path):
    """The number of steps against the row in the path."""
    targets = [target for _, target in row]
    return len([part for part, behind in zip(path, path[1:]) if targets.index(behind) < targets.index(part)])


def _held_behind(paths, state, target):
    """How far each path is held behind a look at the target."""
    return tuple([held + 1 if path[held:held + 1] == (target,) else held for path, held in zip(paths, state)])
