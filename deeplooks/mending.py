"""What can shut an open phrase: parts to be trusted, a better order, signs."""

from deeplooks.aims import check_aims
from deeplooks.feeding import feeding_order
from deeplooks.leavings import bare
from deeplooks.lookrows import looks_once
from deeplooks.lots import trust_sets
from deeplooks.needed import fewest_signs
from deeplooks.openness import is_open
from deeplooks.readers import taken_way
from deeplooks.selfkept import greatest_kept
from deeplooks.sets import check_number
from deeplooks.sure import check_lot


def least_trust(system, phrase, part):
    """The first of the least trust sets for the part, None if there is none."""
    found = trust_sets(system, phrase, part)
    return found[0] if found else None


def order_helps(system, looks, levels, part):
    """True if each best order of the looks shuts the lot out for the part."""
    held = looks_once(system, looks)
    check_lot(system, levels)
    check_number(part, 0, system.many - 1, "part")
    # This is asked for its error alone: with a ring there is no best order.
    feeding_order(system, held)
    return part not in greatest_kept(system, held, levels)


def mend_told(system, foe, phrase, aim):
    """A dict: whether the phrase is open and is taken, and the signs and the trust that could mend it."""
    wanted = check_aims(system, foe, phrase, aim)
    return {
        "open": is_open(system, foe, phrase, wanted),
        "taken": taken_way(system, foe, phrase, wanted) is not None,
        "signs": None if bare(phrase) else fewest_signs(system, phrase),
        "trust": least_trust(system, phrase, wanted[0]),
    }
