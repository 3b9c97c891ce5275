"""Ways down in an unheard run, from a bad target to what its cover rests on."""

from deeplooks.covers import check_length, check_line, first_heard
from deeplooks.errors import BadAim, BadRun
from deeplooks.sets import common, is_int, is_list, is_number

VOID = "void"
DEEP = "deep"
RECENT = "recent"


def descent(system, line, run, i):
    """A way down from position i as a tuple (steps, word, part)."""
    places = check_line(system, line)
    check_length(places, run)
    if not is_number(i, 0, len(places) - 1) or places[i] is None or places[i][1] not in run.states[i]:
        raise BadAim()
    heard = first_heard(system, line, run)
    if heard is not None:
        raise BadRun(heard)
    steps = [(places[i][1], i)]
    while True:
        part, at = steps[-1]
        if _is_void(system, places[at]):
            return (tuple(steps), VOID, part)
        below = _covers(system, places, run, at)[0]
        last = _last_look_at(places, at, below)
        word = _end_word(run, last, below)
        if word is not None:
            return (tuple(steps), word, below)
        steps.append((below, last))


def is_descent(system, line, run, told):
    """True if told is a way down in the run; a value of any kind may be asked for."""
    places = check_line(system, line)
    check_length(places, run)
    if not is_list(told) or len(told) != 3:
        return False
    steps, word, part = told
    if not is_list(steps) or len(steps) == 0 or not all([_is_step(places, run, step) for step in steps]):
        return False
    for (_, at), (below, last) in zip(steps, steps[1:]):
        if not _leads_to(system, places, run, at, below) or _last_look_at(places, at, below) != last:
            return False
    if not isinstance(word, str) or not is_int(part):
        return False
    last_part, at = steps[-1]
    if _is_void(system, places[at]):
        return word == VOID and part == last_part
    if not _leads_to(system, places, run, at, part):
        return False
    return word == _end_word(run, _last_look_at(places, at, part), part)


def _is_void(system, look):
    """True if the look is void."""
    return system.void(look[0], look[1])


def _covers(system, places, run, at):
    """The set of the bad parts that the measurer of the look at the position needs."""
    return common(system.needs[places[at][0]], run.states[at])


def _leads_to(system, places, run, at, part):
    """True if the look at the position is not void and the part is bad and needed there."""
    return not _is_void(system, places[at]) and part in _covers(system, places, run, at)


def _last_look_at(places, at, part):
    """The last position ahead of this one with a look at the part, None if there is none."""
    found = None
    for i, look in enumerate(places[:at]):
        if look is not None and look[1] == part:
            found = i
    return found


def _end_word(run, last, part):
    """The word with which a way ends at the part, None if it goes on at the look at it."""
    if last is None:
        return DEEP
    if part not in run.states[last]:
        return RECENT
    return None


def _is_step(places, run, value):
    """True if value is a list or tuple of a part and the position of a look that finds it bad."""
    if not is_list(value) or len(value) != 2 or not is_int(value[0]) or not is_number(value[1], 0, len(places) - 1):
        return False
    part, at = value
    return places[at] is not None and places[at][1] == part and part in run.states[at]
