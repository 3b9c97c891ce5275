"""Foes that wander alone, from part to part, and tours that tell the truth about them."""

from deeplooks.growth import grow
from deeplooks.sets import check_number, is_list, is_number, meets
from deeplooks.tours import check_pace, check_rounds, check_tour, row_of_round, sets_left


def truthful(system, foe, tour):
    """True if nothing that can be bad is needed by a measurer, and each rule has a premise of one part."""
    check_tour(system, foe, tour)
    grown = grow(foe, foe.early)
    if not all([len(premise) == 1 for premise, _ in foe.rules]):
        return False
    return not any([meets(system.needs[measurer], grown) for row in tour for measurer, _ in row])


def alone_after(system, foe, tour, pace, rounds, part):
    """The set that is left behind these rounds if this part alone is bad at the start."""
    check_tour(system, foe, tour)
    check_pace(pace)
    check_rounds(rounds)
    check_number(part, 0, system.many - 1, "part")
    return sets_left(system, foe, tour, pace, (part,), rounds)[-1]


def lone_walk(system, foe, tour, pace, rounds):
    """A walk of so many rounds as a tuple of parts, None if there is none."""
    check_tour(system, foe, tour)
    check_pace(pace)
    check_rounds(rounds)
    # For each round and each part to which walks lead, the part from which one comes.
    layers = [{part: None for part in foe.early}]
    for number in range(rounds):
        barred = [target for _, target in row_of_round(tour, number)]
        layer = {}
        for part in layers[-1]:
            for further in _reached(foe, part, pace):
                if further not in barred:
                    layer.setdefault(further, part)
        layers.append(layer)
    if not layers[-1]:
        return None
    walk = [list(layers[-1])[0]]
    for layer in reversed(layers[1:]):
        walk.append(layer[walk[-1]])
    return tuple(walk[::-1])


def is_walk(system, foe, tour, pace, told):
    """True if told is a walk of any number of rounds; a value of any kind may be asked for."""
    check_tour(system, foe, tour)
    check_pace(pace)
    if not is_list(told) or len(told) == 0 or not all([is_number(part, 0, system.many - 1) for part in told]):
        return False
    if told[0] not in foe.early:
        return False
    for number, (part, further) in enumerate(zip(told, told[1:])):
        if further in [target for _, target in row_of_round(tour, number)]:
            return False
        if further not in _reached(foe, part, pace):
            return False
    return True


def _reached(foe, part, pace):
    """A list of the parts to which at most so many rules lead from this one, one part at a time."""
    found = [part]
    for _ in range(pace):
        near = [led for premise, led in foe.rules if len(premise) == 1 and premise[0] in found and led not in found]
        found = found + list({led: True for led in near})
    return found
