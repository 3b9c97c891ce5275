"""Lots that a phrase is open or shut for, trust sets, and local parts."""

from deeplooks.aims import aim_of, check_parts
from deeplooks.checks import check_phrase, looks_of
from deeplooks.cleaning import Cleaning
from deeplooks.errors import TooMany
from deeplooks.foes import Foe
from deeplooks.openness import checked_rows
from deeplooks.rows import walk_of
from deeplooks.sets import check_number, joined, meeting_sets, without
from deeplooks.sure import check_lot

MOST_LOT_PARTS = 5
LATE = 2


def lot_open(system, phrase, aim, levels):
    """True if the phrase is open for the aim against the lot."""
    check_phrase(system, phrase)
    wanted = aim_of(system, phrase, aim)
    foe = check_lot(system, levels)
    cleaning = Cleaning(system, phrase, walk_of(checked_rows(system, phrase)))
    return not cleaning.is_shut(cleaning.clean_sets(foe), wanted)


def least_open(system, phrase, aim):
    """A list of the least open lots, ascending."""
    check_phrase(system, phrase)
    opened = _lots_opened(system, phrase, aim_of(system, phrase, aim))
    return [lot for lot in opened if opened[lot] and not any([opened[near] for near in one_step(lot, -1)])]


def greatest_shut(system, phrase, aim):
    """A list of the greatest shut lots, ascending."""
    check_phrase(system, phrase)
    opened = _lots_opened(system, phrase, aim_of(system, phrase, aim))
    return [lot for lot in opened if not opened[lot] and all([opened[near] for near in one_step(lot, 1)])]


def trust_sets(system, phrase, part):
    """A list of the least trust sets for the part, short first."""
    check_phrase(system, phrase)
    check_number(part, 0, system.many - 1, "part")
    lots = [lot for lot in least_open(system, phrase, (part, None)) if lot[part] == 1]
    others = without(tuple(range(system.many)), (part,))
    return meeting_sets([tuple([other for other in others if lot[other] > 0]) for lot in lots], others)


def local_parts(system, foe, phrase, part):
    """The set of the parts on which an aim at this part rests."""
    check_phrase(system, phrase)
    check_parts(system, foe)
    check_number(part, 0, system.many - 1, "part")
    found = (part,)
    larger = _with_near(system, foe, phrase, found)
    while larger != found:
        found = larger
        larger = _with_near(system, foe, phrase, found)
    return found


def _lots_opened(system, phrase, aim):
    """A dict: for each lot, ascending, whether the phrase is open for an aim that was checked."""
    order = checked_rows(system, phrase)
    if system.many > MOST_LOT_PARTS:
        raise TooMany("parts")
    cleaning = Cleaning(system, phrase, walk_of(order))
    opened = {}
    for lot in all_lots(system.many):
        # A lot above an open one is open; the lots one step below come earlier.
        opened[lot] = any([opened[near] for near in one_step(lot, -1)])
        if not opened[lot]:
            opened[lot] = not cleaning.is_shut(cleaning.clean_sets(Foe.of_lot(lot)), aim)
    return opened


def all_lots(many):
    """A list of all lots of so many parts, ascending."""
    lots = [()]
    for _ in range(many):
        lots = [(*lot, level) for lot in lots for level in range(LATE + 1)]
    return lots


def one_step(lot, by):
    """A list of the lots that differ from this one by one step at one part, up or down."""
    found = []
    for part, level in enumerate(lot):
        if 0 <= level + by <= LATE:
            found.append((*lot[:part], level + by, *lot[part + 1:]))
    return found


def _with_near(system, foe, phrase, parts):
    """The parts and all on which they rest directly."""
    found = parts
    for look in looks_of(phrase):
        if look.target in parts:
            found = joined(found, system.needs[look.measurer])
    for premise, led in foe.rules:
        if led in parts and led not in premise:
            found = joined(found, premise)
    return found
