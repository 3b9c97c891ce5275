"""Sets of parts that keep one another bad, whatever row of some looks is gone along."""

from deeplooks.errors import BadSet, TooMany
from deeplooks.lookrows import clean_masks, looks_over, needs_masks, ring_from
from deeplooks.lots import LATE, all_lots, one_step
from deeplooks.masks import members_of
from deeplooks.sets import check_number, common, meets, set_of, without
from deeplooks.sure import check_lot

MOST_KEPT_PARTS = 6


def is_kept(system, looks, levels, parts):
    """True if the set of parts is kept."""
    held = looks_over(system, looks)
    check_lot(system, levels)
    return _keeps_itself(system, held, levels, set_of(parts, system.many, "parts"))


def greatest_kept(system, looks, levels):
    """The kept set that holds all others."""
    held = looks_over(system, looks)
    check_lot(system, levels)
    return without(tuple(range(system.many)), _clean_at_last(needs_masks(system), held, levels))


def cleaning_row(system, looks, levels, part):
    """A row of the looks behind which the part is clean; None if no row makes it so."""
    held = looks_over(system, looks)
    check_lot(system, levels)
    check_number(part, 0, system.many - 1, "part")
    passes = held * system.many
    clean = clean_masks(needs_masks(system), levels, passes)
    if not clean[-1] >> part & 1:
        return None
    # A look that makes nothing clean can be left out.
    found = []
    for look, before, behind in zip(passes, clean, clean[1:]):
        if before != behind and not before >> part & 1:
            found.append(look)
    return tuple(found)


def kept_reason(system, looks, levels, parts):
    """A word that tells why a set is kept, and the part or the ring that shows it."""
    held = looks_over(system, looks)
    check_lot(system, levels)
    chosen = set_of(parts, system.many, "parts")
    if chosen == () or not _keeps_itself(system, held, levels, chosen):
        raise BadSet("parts")
    looked = [target for _, target in held]
    void = [target for measurer, target in held if system.void(measurer, target)]
    late = [part for part in chosen if levels[part] == LATE]
    for word, fitting in (("late", late), ("unlooked", without(chosen, looked)), ("void", common(chosen, void))):
        if len(fitting) > 0:
            return (word, (fitting[0],))
    covers = {target: common(chosen, system.needs[measurer]) for measurer, target in held if target in chosen}
    return ("ring", ring_from(chosen[0], covers))


def least_kept_lots(system, looks, part):
    """A list of the least lots in whose greatest kept set the part is, ascending."""
    held = looks_over(system, looks)
    check_number(part, 0, system.many - 1, "part")
    if system.many > MOST_KEPT_PARTS:
        raise TooMany("parts")
    needs = needs_masks(system)
    kept = {lot: part not in _clean_at_last(needs, held, lot) for lot in all_lots(system.many)}
    return [lot for lot in kept if kept[lot] and not any([kept[near] for near in one_step(lot, -1)])]


def _clean_at_last(needs, looks, levels):
    """The set of the parts that some row of the looks makes clean."""
    # As long as some part can be made clean, each pass along all looks makes one more clean.
    return members_of(clean_masks(needs, levels, looks * len(needs))[-1])


def _keeps_itself(system, looks, levels, parts):
    """True if the parts are kept."""
    if not all([levels[part] > 0 for part in parts]):
        return False
    for measurer, target in looks:
        if target in parts and levels[target] < LATE and not meets(system.needs[measurer], parts):
            return False
    return True
