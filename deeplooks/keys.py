"""Keys that are out, and the places of events."""

from deeplooks.errors import BadRow, BadStep
from deeplooks.events import events_of
from deeplooks.sets import is_number


def keys_out(system, run, i):
    """The set of the places whose key is out at gap i."""
    if not is_number(i, 0, len(run.states)):
        raise BadRow(i)
    return tuple([place for place, manager in enumerate(system.managers) if was_bad(run, manager, 0, i)])


def place_of_event(system, phrase, event):
    """The place of the event, -1 for an ask of the judge."""
    events = events_of(system, phrase)
    if not is_number(event, 0, len(events) - 1):
        raise BadStep("event")
    return events[event][1]


def was_bad(run, part, first, last):
    """True if the part was bad at some moment of these gaps, from the first up to the last one."""
    return any([part in moments for moments in run.moments[first:last + 1]])
