"""What a log tells: what is ready at its place, and what is worked out there."""

from deeplooks.checks import JUDGE, check_phrase
from deeplooks.errors import BadStep
from deeplooks.evidence import MOST_NONCE, Nonce
from deeplooks.plans import Plan
from deeplooks.records import ASKED, BEGUN, DONE, GOT, SAID
from deeplooks.sets import check_number, common, inside, is_int


def pieces_at(system, phrase, place):
    """A tuple of the asks whose pieces stand at the place, (-1,) for the judge."""
    plan = Plan(system, phrase)
    check_place(system, place)
    return tuple([piece.ask for piece in plan.pieces_of_place(place)])


def ready_at(system, phrase, place, records):
    """The set of the events that are ready at the place, by its records alone."""
    plan = Plan(system, phrase)
    check_place(system, place)
    return ready_by(plan, place, records)


def worked_out(system, phrase, nonce, place, records, event):
    """The evidence of the honest record for an ask or an answer that is ready."""
    check_session(system, phrase, nonce)
    check_place(system, place)
    plan = Plan(system, phrase)
    if not is_int(event) or event not in ready_by(plan, place, records) or event in plan.look_events:
        raise BadStep("event")
    return honest_evidence(plan, nonce, records, event)


def check_session(system, phrase, nonce):
    """BadPhrase if the phrase does not fit the system, then BadNumber if there is no such nonce."""
    check_phrase(system, phrase)
    check_number(nonce, 0, MOST_NONCE, "nonce")


def check_place(system, place):
    """BadNumber if the place is none of the system and not the judge's."""
    check_number(place, JUDGE, system.places - 1, "place")


def ready_by(plan, place, records):
    """The set of the events that are ready at the place; what the records hold besides counts for nothing."""
    marks = {(record.kind, record.event): True for record in records if _fits(plan, record)}
    found = []
    for piece in plan.pieces_of_place(place):
        if piece.ask == JUDGE or (BEGUN, piece.ask) in marks:
            found = found + _ready_in_piece(plan, piece, marks)
    return tuple(sorted(found))


def honest_evidence(plan, nonce, records, event):
    """What is handed on at an ask or an answer that is ready, as the records tell."""
    hands, told = told_by(nonce, records)
    return plan.handed_on(event, hands, told)


def told_by(nonce, records):
    """The two dicts of a plan, as the records of one log tell them."""
    hands = {JUDGE: Nonce(nonce)}
    told = {}
    for record in records:
        if record.kind == BEGUN:
            hands[record.event] = record.what
        if record.kind == SAID or record.kind == GOT:
            told[record.event] = record.what
    return (hands, told)


def has_ended(piece, marks):
    """True if all looks and asks of the piece are ended; marks has (kind, event) of the records as keys."""
    return len(_ended(piece, marks)) == len(piece.look_events) + len(piece.asks)


def _fits(plan, record):
    """True if the record's number is an event of the kind that its own kind tells."""
    if record.kind == SAID:
        return record.event in plan.look_events
    return plan.is_ask(record.event)


def _ready_in_piece(plan, piece, marks):
    """A list of the events of an open piece that are ready."""
    members = piece.look_events + piece.asks
    ended = _ended(piece, marks)
    waiting = [look for look in piece.look_events if (SAID, look) not in marks]
    waiting = waiting + [ask for ask in piece.asks if (ASKED, ask) not in marks]
    found = [event for event in waiting if inside(common(plan.order.ahead(event), members), ended)]
    if piece.last is not None and (DONE, piece.ask) not in marks and has_ended(piece, marks):
        found.append(piece.last)
    return found


def _ended(piece, marks):
    """A list of the looks that are said and the asks that are got, of those that belong to the piece."""
    looks = [look for look in piece.look_events if (SAID, look) in marks]
    return looks + [ask for ask in piece.asks if (GOT, ask) in marks]
