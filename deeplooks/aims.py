"""Aims of phrases, and what a system, a foe and a phrase are asked for before anything else."""

from deeplooks.checks import check_phrase, looks_of
from deeplooks.errors import BadAim, BadFoe
from deeplooks.sets import is_list, is_number


def check_parts(system, foe):
    """BadFoe if the foe is over another number of parts than the system."""
    if foe.many != system.many:
        raise BadFoe("many")


def check_aims(system, foe, phrase, aim):
    """The aim as a tuple; raises the errors of the phrase, the foe and the aim, in this order."""
    check_phrase(system, phrase)
    check_parts(system, foe)
    return aim_of(system, phrase, aim)


def aim_of(system, phrase, aim):
    """The aim as a tuple, if it is one of a phrase that fits the system, else BadAim."""
    if not is_list(aim) or len(aim) != 2 or not is_number(aim[0], 0, system.many - 1):
        raise BadAim()
    target, number = aim
    looks = looks_of(phrase)
    if number is not None and not (is_number(number, 0, len(looks) - 1) and looks[number].target == target):
        raise BadAim()
    return (target, number)


def aim_in_row(aim, row):
    """The aim on the line of a row, in which its look, if it has one, has the number that the aim tells."""
    target, number = aim
    return (target, None if number is None else row.index(number))
