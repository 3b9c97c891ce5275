"""Whether a phrase fits a system, and where its leaves stand."""

from deeplooks.errors import BadPhrase
from deeplooks.phrases import Ask, Look, Phrase, ask_many, depth, look_many, sign_many

MOST_DEPTH = 12
MOST_EVENTS = 12
MOST_SIGNS = 10
JUDGE = -1


def check_phrase(system, phrase):
    """BadPhrase(word) with the first reason why the phrase does not fit the system."""
    word = _unfit(system, phrase)
    if word is not None:
        raise BadPhrase(word)


def stands_at(phrase):
    """A tuple of the places where the leaves stand, -1 for the judge."""
    return tuple(_leaf_places(phrase, JUDGE))


def event_many(phrase):
    """The number of events: one for each look, two for each ask."""
    return look_many(phrase) + 2 * ask_many(phrase)


def void_looks(system, phrase):
    """The set of the numbers of the looks whose measurer needs the target."""
    check_phrase(system, phrase)
    looks = looks_of(phrase)
    return tuple([number for number, look in enumerate(looks) if system.void(look.measurer, look.target)])


def looks_of(phrase):
    """A list of the looks of the phrase by number."""
    return [leaf for leaf in phrase.leaves() if isinstance(leaf, Look)]


def _unfit(system, phrase):
    """The word of the first reason why the phrase does not fit, None if it fits."""
    if not isinstance(phrase, Phrase):
        return "phrase"
    if depth(phrase) > MOST_DEPTH:
        return "depth"
    if event_many(phrase) > MOST_EVENTS or sign_many(phrase) > MOST_SIGNS:
        return "many"
    if not all([place < system.places for place in _asked_places(phrase)]):
        return "place"
    looks = looks_of(phrase)
    if not all([look.measurer < system.many and look.target < system.many for look in looks]):
        return "part"
    places = stands_at(phrase)
    if JUDGE in places:
        return "judge"
    for leaf, place in zip(phrase.leaves(), places):
        if isinstance(leaf, Look) and system.homes[leaf.measurer] != place:
            return "home"
    return None


def _asked_places(phrase):
    """A list of the places that are asked somewhere in the phrase."""
    own = [phrase.place] if isinstance(phrase, Ask) else []
    for part in phrase.parts_of():
        own = own + _asked_places(part)
    return own


def _leaf_places(phrase, place):
    """A list of the places of the leaves of a phrase that stands at the place."""
    parts = phrase.parts_of()
    if not parts:
        return [place]
    inner = phrase.place if isinstance(phrase, Ask) else place
    found = []
    for part in parts:
        found = found + _leaf_places(part, inner)
    return found
