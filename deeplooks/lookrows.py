"""Looks and rows of looks as arguments, and what becomes clean along a row."""

from deeplooks.errors import BadLine, BadSet
from deeplooks.masks import mask_of
from deeplooks.sets import is_int, is_list, is_pair

MOST_LOOKS = 8
MOST_IN_ROW = 40


def looks_over(system, value):
    """A tuple of the looks as tuples, if they are 1 to 8 pairs of parts of the system."""
    if not is_list(value) or len(value) < 1 or len(value) > MOST_LOOKS:
        raise BadSet("looks")
    if not all([is_pair(look, system.many) for look in value]):
        raise BadSet("looks")
    return tuple([tuple(look) for look in value])


def looks_once(system, value):
    """The looks as looks_over tells them, if no two have the same target."""
    looks = looks_over(system, value)
    if len(set([target for _, target in looks])) < len(looks):
        raise BadSet("looks")
    return looks


def check_one_home(system, looks):
    """BadSet if the measurers of the looks are not all at home at one place."""
    if len(set([system.homes[measurer] for measurer, _ in looks])) > 1:
        raise BadSet("looks")


def row_over(many, most, value):
    """A row of at most so many looks at so many parts, as a tuple of tuples."""
    _check_length(value, most)
    for i, look in enumerate(value):
        if not is_pair(look, many):
            raise BadLine(i)
    return tuple([tuple(look) for look in value])


def row_among(looks, value):
    """A row of at most 40 looks, each of them one of these, as a tuple of tuples."""
    _check_length(value, MOST_IN_ROW)
    for i, look in enumerate(value):
        if not is_list(look) or not all([is_int(part) for part in look]) or tuple(look) not in looks:
            raise BadLine(i)
    return tuple([tuple(look) for look in value])


def needs_masks(system):
    """A list: for each part the mask of what it needs."""
    return [mask_of(need) for need in system.needs]


def clean_masks(needs, levels, row):
    """A list of the masks of the clean parts: ahead of the row, and behind each of its looks.

    needs has for each part the mask of what it needs.
    """
    clean = mask_of([part for part, level in enumerate(levels) if level == 0])
    found = [clean]
    for measurer, target in row:
        if needs[measurer] & ~clean == 0 and levels[target] == 1:
            clean = clean | 1 << target
        found.append(clean)
    return found


def ring_from(member, further):
    """A ring as a tuple, on the way that always goes on to the first of the further ones."""
    way = [member]
    while True:
        following = further[way[-1]][0]
        if following in way:
            return tuple(way[way.index(following):])
        way.append(following)


def _check_length(value, most):
    """BadLine(-1) if the value is no list or tuple, or has more than so many members."""
    if not is_list(value) or len(value) > most:
        raise BadLine(-1)
