"""Leading a machine to its answer, deed by deed."""

from deeplooks.errors import BadRow, BadSet, BadStep
from deeplooks.events import look_events, order_of
from deeplooks.machines import Machine
from deeplooks.rows import is_row
from deeplooks.sets import is_list

DO = "do"
SEND = "send"
BRING = "bring"


def deeds_left(machine):
    """A tuple of the fewest deeds that bring the answer, in an order in which they can be done."""
    ahead = machine.twin()
    deeds = []
    while ahead.answer() is None:
        further = _next_deeds(ahead)
        for deed in further:
            done_with(ahead, deed)
        deeds = deeds + further
    return tuple(deeds)


def done_with(machine, deed, *, word=True):
    """Do this deed on the machine, a look with the word."""
    if not is_list(deed) or len(deed) != 2 or not isinstance(deed[0], str) or deed[0] not in (DO, SEND, BRING):
        raise BadStep("deed")
    kind, what = deed
    if kind == DO:
        machine.do(what, word=word)
    elif kind == SEND:
        machine.send(what)
    else:
        machine.bring(what)


def drive(system, phrase, nonce, row, words):
    """A machine that has recorded the events honestly, in the order of the row, and has its answer."""
    machine = Machine(system, phrase, nonce)
    if not is_row(order_of(system, phrase), row):
        raise BadRow(0)
    looks = look_events(system, phrase)
    if not is_list(words) or len(words) != len(looks):
        raise BadSet("words")
    for event in row:
        machine.do(event, word=words[looks.index(event)] if event in looks else True)
        for letter in letters_waited_for(machine):
            deliver(machine, letter)
    return machine


def letters_waited_for(machine):
    """A list of the letters that may be sent and that some place waits for."""
    return [letter for letter in machine.letters() if machine.waits_for(letter)]


def deliver(machine, letter):
    """Send the letter and bring it."""
    machine.send(letter)
    machine.bring(letter)


def _next_deeds(machine):
    """A list of deeds that can be done next, as few as can be: one event, or one letter."""
    ready = machine.ready()
    if ready:
        return [(DO, ready[0])]
    letter = letters_waited_for(machine)[0]
    if letter in machine.bag():
        return [(BRING, letter)]
    return [(SEND, letter), (BRING, letter)]
