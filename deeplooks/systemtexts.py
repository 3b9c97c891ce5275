"""The text of a system, and reading it."""

from deeplooks.errors import BadText
from deeplooks.reading import behind_word, lines_in, number_in, numbers_in, numbers_text, set_in
from deeplooks.systems import MOST_PARTS, MOST_PLACES, System, are_managers

LINES = 4


def system_text(system):
    """The text of the system: places, homes, needs and managers, a line each."""
    needs = " / ".join([numbers_text(need) for need in system.needs])
    lines = [
        "places " + str(system.places),
        "homes " + numbers_text(system.homes),
        "needs " + needs,
        "managers " + numbers_text(system.managers),
    ]
    return "\n".join(lines)


def system_from(text):
    """The system that has this text; BadText(line) tells the first line that is wrong."""
    lines = lines_in(text, LINES)
    places = _places_in(lines[0])
    if places is None:
        raise BadText(0)
    homes = _homes_in(lines[1], places)
    if homes is None:
        raise BadText(1)
    needs = _needs_in(lines[2], len(homes))
    if needs is None:
        raise BadText(2)
    managers = _managers_in(lines[3], homes, places)
    if managers is None:
        raise BadText(3)
    if len(lines) > LINES:
        raise BadText(LINES)
    return System(places, homes, needs, managers)


def _places_in(line):
    """The number of places that the line tells, None if it is wrong."""
    told = behind_word(line, "places")
    places = None if told is None else number_in(told, MOST_PLACES + 1)
    return None if places == 0 else places


def _homes_in(line, places):
    """The homes that the line tells, None if it is wrong."""
    told = behind_word(line, "homes")
    homes = None if told is None else numbers_in(told, places)
    if homes is None or len(homes) > MOST_PARTS:
        return None
    return homes


def _needs_in(line, many):
    """The needs that the line tells, None if it is wrong."""
    told = behind_word(line, "needs")
    if told is None:
        return None
    needs = [set_in(piece, many) for piece in told.split(" / ")]
    if None in needs or len(needs) != many:
        return None
    if not all([part in need for part, need in enumerate(needs)]):
        return None
    return needs


def _managers_in(line, homes, places):
    """The managers that the line tells, None if it is wrong."""
    told = behind_word(line, "managers")
    managers = None if told is None else numbers_in(told, len(homes))
    if managers is None or not are_managers(managers, homes, places):
        return None
    return managers
