"""Sure looks: those whose measurers are grounded on each look row, whatever the foe of a lot does."""

from deeplooks.checks import check_phrase, looks_of
from deeplooks.errors import BadLot, BadPhrase
from deeplooks.events import look_order
from deeplooks.foes import Foe
from deeplooks.phrases import Phrase


def sure_looks(system, phrase, levels):
    """The set of the numbers of the sure looks for the lot."""
    check_phrase(system, phrase)
    check_lot(system, levels)
    order = look_order(system, phrase)
    looks = looks_of(phrase)
    sure = []
    # A look can only be sure by looks ahead of it, and all of these have fewer looks ahead of them.
    for _, number in sorted([(len(order.ahead(number)), number) for number in range(order.size)]):
        cleaned = [looks[other].target for other in order.ahead(number) if other in sure]
        if _is_sure(system.needs[looks[number].measurer], levels, cleaned):
            sure.append(number)
    return tuple(sorted(sure))


def once_each(phrase):
    """True if no two looks of the phrase have the same target."""
    if not isinstance(phrase, Phrase):
        raise BadPhrase("phrase")
    targets = [look.target for look in looks_of(phrase)]
    return len(set(targets)) == len(targets)


def check_lot(system, levels):
    """The foe of the lot, if there is one level for each part of the system."""
    foe = Foe.of_lot(levels)
    if foe.many != system.many:
        raise BadLot(-1)
    return foe


def _is_sure(needs, levels, cleaned):
    """True if each part of needs has the level 0, or the level 1 and is among the cleaned ones."""
    return all([levels[part] == 0 or levels[part] == 1 and part in cleaned for part in needs])
