"""Wrong looks, levels and rows of looks, each with the place that its error tells; lots and rows drawn."""

from tests.helpers import NO_LISTS, ODD


def wrong_pairs(many):
    """What is no pair of parts."""
    return NO_LISTS + [(), (0,), (0, 1, 1), (0, many), (many, 0), (-1, 0), (0, -1), (True, 0), (0, False), (0, None), ("0", 1)]


def wrong_looks(many):
    """What is no list of 1 to 8 looks."""
    return NO_LISTS + [[], [(0, 0)] * 9, ()] + [[(0, 1), pair] for pair in wrong_pairs(many)]


def wrong_levels(many):
    """What is no lot of so many parts, with the place."""
    found = [(value, -1) for value in NO_LISTS + [[], [0] * 9, [0] * (many + 1), [1] * (many - 1)]]
    for value in (3, -1, True, None, "1", [0], ODD):
        found.append(([0] * (many - 1) + [value], many - 1))
        found.append(([value] * (many + 1), 0))
    return found


def wrong_rows(many, most):
    """What is no row of at most so many looks, with the place."""
    found = [(value, -1) for value in NO_LISTS + [[(0, 1)] * (most + 1), [None] * (most + 1)]]
    for pair in wrong_pairs(many):
        found.append(([pair], 0))
        found.append(([(0, 1), [1, 0], pair, None], 2))
    return found


def some_pairs(chance, many, count):
    """So many looks, as tuples and lists."""
    found = [(chance.randrange(many), chance.randrange(many)) for _ in range(count)]
    return [chance.choice([look, list(look)]) for look in found]


def single_looks(chance, many, count):
    """So many looks no two of which are at one part."""
    targets = chance.sample(range(many), count)
    return [(chance.randrange(many), target) for target in targets]


def some_lot(chance, many, most=2):
    """A lot of so many parts."""
    return tuple(chance.randrange(most + 1) for _ in range(many))


def cleaned(system, levels, row):
    """The clean parts ahead of the row and behind each look, straight from point 153."""
    clean = {part for part, level in enumerate(levels) if level == 0}
    found = [set(clean)]
    for measurer, target in row:
        if set(system.needs[measurer]) <= clean and levels[target] == 1:
            clean.add(target)
        found.append(set(clean))
    return found


def clean_for_good(system, levels, looks):
    """All parts that some row of these looks makes clean."""
    return cleaned(system, levels, list(looks) * (len(levels) + 1))[-1]
