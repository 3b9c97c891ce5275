"""Lines, what covers a look for the hearer, and aims."""

from deeplooks.errors import BadAim, BadLine, BadRow, BadRun
from deeplooks.sets import is_list, is_number, is_pair, meets
from deeplooks.systems import MOST_PARTS

MOST_POSITIONS = 16


def check_line(system, line):
    """The line as a tuple; BadLine(i) tells the first place that is neither None nor a look."""
    return line_over(system.many, line)


def line_over(many, line):
    """The line as a tuple, if its looks are of so many parts."""
    if not is_list(line) or len(line) > MOST_POSITIONS:
        raise BadLine(-1)
    for i, place in enumerate(line):
        if place is not None and not is_pair(place, many):
            raise BadLine(i)
    return tuple([None if place is None else tuple(place) for place in line])


class Hearing:
    """Called with a run and a position, it tells if the position is covered for the hearer."""

    def __init__(self, system, line):
        self.line = check_line(system, line)
        self.system = system

    def __call__(self, run, i):
        check_length(self.line, run)
        check_position(self.line, i)
        look = self.line[i]
        return look is None or meets(self.system.needs[look[0]], run.states[i])


def honest_bad(system, line, run, i):
    """True if position i is a look that is honestly bad in the run."""
    places = check_line(system, line)
    check_length(places, run)
    check_position(places, i)
    return is_honestly_bad(system, places[i], run.states[i])


def unheard(system, line, run):
    """True if no look of the line is honestly bad in the run."""
    return first_heard(system, line, run) is None


def first_heard(system, line, run):
    """The first position with an honestly bad look, None if there is none."""
    places = check_line(system, line)
    check_length(places, run)
    for i, look in enumerate(places):
        if is_honestly_bad(system, look, run.states[i]):
            return i
    return None


def check_aim(line, aim):
    """The aim as a tuple, if it is one on the line."""
    return aim_on(line_over(MOST_PARTS, line), aim)


def aim_on(places, aim):
    """The aim as a tuple, if it is one on a line that was checked."""
    if not is_list(aim) or len(aim) != 2 or not is_number(aim[0], 0, MOST_PARTS - 1):
        raise BadAim()
    target, i = aim
    if i is not None and not _is_look_at(places, i, target):
        raise BadAim()
    return (target, i)


def reaches(line, run, aim):
    """True if the run reaches the aim on the line."""
    places = line_over(MOST_PARTS, line)
    check_length(places, run)
    return is_reached(run, aim_on(places, aim))


def is_reached(run, aim):
    """True if the run reaches an aim that was checked."""
    target, i = aim
    held = run.moments[-1] if i is None else run.states[i]
    return target in held


def is_honestly_bad(system, look, state):
    """True if it is a look, and honestly bad when these parts are bad."""
    if look is None:
        return False
    measurer, target = look
    return target in state and not meets(system.needs[measurer], state)


def check_length(places, run):
    """BadRun(-1) if the run has another length than the line."""
    if len(run.states) != len(places):
        raise BadRun(-1)


def check_position(places, i):
    """BadRow(i) if i is no position of the line."""
    if not is_number(i, 0, len(places) - 1):
        raise BadRow(i)


def _is_look_at(places, i, target):
    """True if i is the position of a look at the target."""
    if not is_number(i, 0, len(places) - 1):
        return False
    return places[i] is not None and places[i][1] == target
