"""The events of a phrase, and their order."""

from deeplooks.checks import JUDGE, check_phrase, event_many
from deeplooks.orders import Order
from deeplooks.phrases import Ask, Branch, Look


def events_of(system, phrase):
    """A tuple of the events by number."""
    check_phrase(system, phrase)
    return tuple(_events(phrase, JUDGE))


def look_events(system, phrase):
    """A tuple of the event numbers of the looks."""
    events = events_of(system, phrase)
    return tuple([number for number, event in enumerate(events) if event[0] == "look"])


def order_of(system, phrase):
    """The order of the phrase on its events."""
    check_phrase(system, phrase)
    return Order(event_many(phrase), _pairs(phrase, 0))


def look_order(system, phrase):
    """The order of the phrase on its look numbers."""
    return order_of(system, phrase).kept(look_events(system, phrase))


def _events(phrase, place):
    """A list of the events of a phrase that stands at the place."""
    if isinstance(phrase, Look):
        return [("look", place, phrase.measurer, phrase.target)]
    if isinstance(phrase, Ask):
        inner = _events(phrase.asked, phrase.place)
        return [("ask", place, phrase.place), *inner, ("answer", phrase.place, place)]
    found = []
    for part in phrase.parts_of():
        found = found + _events(part, place)
    return found


def _pairs(phrase, first):
    """A list of the pairs in order among the events of a phrase, of which the first one is told."""
    parts = phrase.parts_of()
    if not parts:
        return []
    if isinstance(phrase, Ask):
        inner = range(first + 1, first + 1 + event_many(phrase.asked))
        answer = first + 1 + len(inner)
        pairs = [(first, answer)] + [(first, e) for e in inner] + [(e, answer) for e in inner]
        return pairs + _pairs(phrase.asked, first + 1)
    left, right = parts
    middle = first + event_many(left)
    pairs = _pairs(left, first) + _pairs(right, middle)
    if isinstance(phrase, Branch) and phrase.together:
        return pairs
    last = middle + event_many(right)
    return pairs + [(e, f) for e in range(first, middle) for f in range(middle, last)]
