"""Where evidence leaves places, and phrases that are signed just there."""

from deeplooks.checks import JUDGE, MOST_DEPTH, check_phrase, event_many
from deeplooks.errors import BadPhrase, BadSet
from deeplooks.events import events_of
from deeplooks.phrases import Ask, Branch, Look, Phrase, Sign, Then, depth
from deeplooks.sets import inside, is_set


def leavings(system, phrase):
    """The set of the events at which evidence leaves a place."""
    events = events_of(system, phrase)
    return tuple([number for number, event in enumerate(events) if event[0] != "look" and event[1] != JUDGE])


def bare(phrase):
    """True if something would be lacking in the phrase if its signs were taken out."""
    if not isinstance(phrase, Phrase):
        raise BadPhrase("phrase")
    return event_many(phrase) == 0 or _lacks(phrase)


def without_signs(system, phrase):
    """The phrase in which each sign is taken out."""
    check_not_bare(system, phrase)
    return _unsigned(phrase)


def signed_at(system, phrase, spots):
    """The phrase that is signed at the spots and nowhere else."""
    check_not_bare(system, phrase)
    found = leavings(system, phrase)
    if not is_set(spots, event_many(phrase)) or not inside(spots, found):
        raise BadSet("spots")
    signed = _signed(_unsigned(phrase), 0, spots)
    if depth(signed) > MOST_DEPTH:
        raise BadPhrase("depth")
    return signed


def full_signing(system, phrase):
    """The phrase that is signed at all leavings."""
    check_not_bare(system, phrase)
    return signed_at(system, phrase, leavings(system, phrase))


def check_not_bare(system, phrase):
    """BadPhrase if the phrase does not fit the system, or is bare."""
    check_phrase(system, phrase)
    if bare(phrase):
        raise BadPhrase("bare")


def _lacks(phrase):
    """True if what some ask in the phrase asks, or some part of a branch in it, holds no event."""
    parts = phrase.parts_of()
    if isinstance(phrase, Ask) or isinstance(phrase, Branch):
        if any([event_many(part) == 0 for part in parts]):
            return True
    return any([_lacks(part) for part in parts])


def _unsigned(phrase):
    """A phrase that is not bare, without its signs."""
    if isinstance(phrase, Look):
        return phrase
    if isinstance(phrase, Ask):
        return Ask(phrase.place, _unsigned(phrase.asked))
    left, right = phrase.parts_of()
    if isinstance(phrase, Branch):
        return _rejoined(phrase, _unsigned(left), _unsigned(right))
    if event_many(left) == 0:
        return _unsigned(right)
    if event_many(right) == 0:
        return _unsigned(left)
    return Then(_unsigned(left), _unsigned(right))


def _signed(phrase, event, spots):
    """A phrase without signs, signed at those of the spots that are in it; event is its first one."""
    if isinstance(phrase, Look):
        return phrase
    if isinstance(phrase, Ask):
        return _signed_ask(phrase, event, spots)
    left, right = phrase.parts_of()
    first = _signed(left, event, spots)
    second = _signed(right, event + event_many(left), spots)
    if isinstance(phrase, Branch):
        return _rejoined(phrase, first, second)
    return Then(first, second)


def _signed_ask(ask, event, spots):
    """An ask without signs, signed ahead of it and behind what it asks, where these are spots."""
    asked = _signed(ask.asked, event + 1, spots)
    if event + 1 + event_many(ask.asked) in spots:
        asked = Then(asked, Sign())
    whole = Ask(ask.place, asked)
    return Then(Sign(), whole) if event in spots else whole


def _rejoined(branch, left, right):
    """The branch with other parts."""
    keep_left, keep_right = branch.keep_left, branch.keep_right
    return Branch(left, right, keep_left=keep_left, keep_right=keep_right, together=branch.together)
