"""Tours: rows of looks gone along round after round, and the foes that wander between them."""

from deeplooks.aims import check_parts
from deeplooks.errors import BadFoe, BadTour
from deeplooks.growth import wave
from deeplooks.sets import check_number, inside, is_list, is_pair, is_set, meets, set_of, without

MOST_ROWS = 4
MOST_ROUND_LOOKS = 8
MOST_PACE = 20
MOST_ROUNDS = 400


def spread(foe, parts, pace):
    """The set of the parts that can be bad behind a pause that begins with these ones."""
    held = set_of(parts, foe.many, "parts")
    check_pace(pace)
    return spread_of(foe, held, pace)


def round_of_row(system, foe, row, parts):
    """The set of the parts that are left of these ones behind the row."""
    check_wanderer(system, foe)
    if not _is_row(system, row):
        raise BadTour("rows")
    return left_of_row(system, row, set_of(parts, system.many, "parts"))


def left_after(system, foe, tour, pace, rounds):
    """A tuple of the sets that are left behind no round, one round, and so on."""
    check_tour(system, foe, tour)
    check_pace(pace)
    check_rounds(rounds)
    return tuple(sets_left(system, foe, tour, pace, foe.early, rounds))


def met(system, foe, tour, pace):
    """The number of rounds behind which nothing is left for the first time, None if there is none."""
    check_tour(system, foe, tour)
    check_pace(pace)
    sets, again = _till_again(system, foe, tour, pace)
    return len(sets) - 1 if again is None else None


def comes_again(system, foe, tour, pace):
    """Two numbers of rounds behind which the same is left, and the same comes; None if the foe is met."""
    check_tour(system, foe, tour)
    check_pace(pace)
    sets, again = _till_again(system, foe, tour, pace)
    return None if again is None else (again, len(sets) - 1)


def way_of_rounds(system, foe, tour, pace, rounds):
    """The greatest way, a tuple with what is bad behind the pause, at the looks and at the end of each round."""
    sets = left_after(system, foe, tour, pace, rounds)
    found = []
    for number, before in enumerate(sets[:-1]):
        paused = spread_of(foe, before, pace)
        states = states_along(system, row_of_round(tour, number), paused)
        found.append((paused, tuple(states), sets[number + 1]))
    return tuple(found)


def is_way(system, foe, tour, pace, told):
    """True if told is an unheard way of any number of rounds; a value of any kind may be asked for."""
    check_tour(system, foe, tour)
    check_pace(pace)
    if not is_list(told):
        return False
    before = foe.early
    for number, entry in enumerate(told):
        if not _is_entry(system, entry):
            return False
        paused, states, left = entry
        row = row_of_round(tour, number)
        if not inside(paused, spread_of(foe, before, pace)) or not _is_unheard(system, row, states):
            return False
        steps = [paused, *states, left]
        if not all([inside(later, earlier) for earlier, later in zip(steps, steps[1:])]):
            return False
        before = left
    return True


def check_wanderer(system, foe):
    """BadFoe if the foe is over another number of parts, or cannot wander."""
    check_parts(system, foe)
    if any([premise == () for premise, _ in foe.rules]):
        raise BadFoe("rules")
    if foe.stuck != ():
        raise BadFoe("stuck")


def check_tour(system, foe, tour):
    """The errors of the foe, then BadTour if the tour is none."""
    check_wanderer(system, foe)
    if not is_list(tour) or len(tour) < 1 or len(tour) > MOST_ROWS:
        raise BadTour("rows")
    if not all([_is_row(system, row) for row in tour]):
        raise BadTour("rows")


def check_pace(pace):
    """BadNumber if the pace is none."""
    check_number(pace, 0, MOST_PACE, "pace")


def check_rounds(rounds):
    """BadNumber if it is no number of rounds."""
    check_number(rounds, 0, MOST_ROUNDS, "rounds")


def row_of_round(tour, number):
    """The row of the round behind so many rounds."""
    return tour[number % len(tour)]


def spread_of(foe, parts, pace):
    """The spread of a set and at a pace that were checked."""
    held = parts
    for _ in range(pace):
        held = wave(foe, held)
    return held


def states_along(system, row, paused):
    """A list of what is left behind each look of the row, if these are bad ahead of it."""
    held = paused
    found = []
    for measurer, target in row:
        if not meets(system.needs[measurer], held):
            held = without(held, (target,))
        found.append(held)
    return found


def left_of_row(system, row, paused):
    """What is left behind the row, if these are bad ahead of it."""
    return [paused, *states_along(system, row, paused)][-1]


def sets_left(system, foe, tour, pace, start, rounds):
    """A list of what is left behind no round, one round, and so on, of the parts at the start."""
    found = [start]
    for number in range(rounds):
        found.append(left_of_row(system, row_of_round(tour, number), spread_of(foe, found[-1], pace)))
    return found


def _till_again(system, foe, tour, pace):
    """A list of what is left behind no round, one round, ..., and the number of rounds that comes again.

    It ends with the empty set, and that number is None; or with the set that was left behind that number.
    """
    found = [foe.early]
    seen = {}
    while found[-1] != ():
        rounds = len(found) - 1
        state = (found[-1], rounds % len(tour))
        if state in seen:
            return (found, seen[state])
        seen[state] = rounds
        found.append(left_of_row(system, row_of_round(tour, rounds), spread_of(foe, found[-1], pace)))
    return (found, None)


def _is_row(system, value):
    """True if the value is a list or tuple of at most 8 looks."""
    return is_list(value) and len(value) <= MOST_ROUND_LOOKS and all([is_pair(look, system.many) for look in value])


def _is_entry(system, value):
    """True if the value is a list or tuple of a set, a list or tuple of sets, and a set."""
    if not is_list(value) or len(value) != 3 or not is_list(value[1]):
        return False
    return all([is_set(held, system.many) for held in (value[0], *value[1], value[2])])


def _is_unheard(system, row, states):
    """True if there is one state for each look of the row, and none of them is heard in its state."""
    if len(states) != len(row):
        return False
    for (measurer, target), state in zip(row, states):
        if target in state and not meets(system.needs[measurer], state):
            return False
    return True
