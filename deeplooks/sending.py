"""What is recorded at each event of a run, and what a foe can build out of what it knows."""

from deeplooks.checks import JUDGE
from deeplooks.covers import check_length
from deeplooks.errors import BadEvidence
from deeplooks.evidence import MOST_NONCE, Empty, Evidence, Nonce, Pair, Said, Signed
from deeplooks.evidencetexts import evidence_text
from deeplooks.handling import Handling
from deeplooks.keys import keys_out
from deeplooks.logs import check_session
from deeplooks.plans import Plan
from deeplooks.sets import is_list, meets, set_of
from deeplooks.systems import MOST_PLACES
from deeplooks.worth import clean_of, sign_holds


class Sending:
    """The records of the events ahead on a row, and what is handed on by them."""

    def __init__(self, system, phrase, nonce):
        self.plan = Plan(system, phrase)
        self._hands = {JUDGE: Nonce(nonce)}
        self._told = {}

    def is_look(self, event):
        """True if the event is a look."""
        return self.plan.events[event][0] == "look"

    def handed_on(self, event):
        """What is handed on at an ask or an answer."""
        return self.plan.handed_on(event, self._hands, self._told)

    def put(self, event, what):
        """Put the record of the event to those of the events ahead."""
        if self.plan.is_ask(event):
            self._hands[event] = what
        elif self.is_look(event):
            self._told[event] = what
        else:
            self._told[self.plan.ask_of_answer(event)] = what

    def last_evidence(self):
        """What the whole phrase writes."""
        return self.plan.whole(self._hands, self._told)


class Clearing:
    """Puts good words in the place of bad ones, as far as keys that are out and memory let it."""

    def __init__(self, system, phrase, nonce, memory):
        known = opened([clean_of(system, phrase, nonce)]) if memory else []
        signs = [piece.sign for piece in known if isinstance(piece, Signed)]
        self._remembered = [sign for sign in signs if not sign_holds(phrase, sign)]

    def cleared(self, piece, out):
        """The piece with good words where each sign round them is remembered or of one of the places out."""
        if isinstance(piece, Said):
            return Said(piece.look, piece.measurer, piece.target, True, self.cleared(piece.inner, out))
        if isinstance(piece, Pair):
            return Pair(self.cleared(piece.left, out), self.cleared(piece.right, out))
        if isinstance(piece, Signed) and (piece.place in out or piece.sign in self._remembered):
            return Signed(piece.sign, piece.place, self.cleared(piece.inner, out))
        return piece


def recorded_by(system, phrase, nonce, row, run, *, memory=False):
    """The full sending of the run: a tuple of its records, and its last evidence."""
    check_session(system, phrase, nonce)
    handling = Handling(system, phrase, row, memory)
    check_length(handling.row, run)
    sending = Sending(system, phrase, nonce)
    clearing = Clearing(system, phrase, nonce, memory)
    records = []
    for i, event in enumerate(handling.row):
        bad_managed = handling.is_bad_managed(run, i)
        if sending.is_look(event):
            what = bad_managed or not handling.is_heard(run, i)
        else:
            what = sending.handed_on(event)
            if bad_managed:
                what = clearing.cleared(what, keys_out(system, run, i))
        sending.put(event, what)
        records.append(what)
    return (tuple(records), sending.last_evidence())


def opened(known):
    """A list of the different pieces in the evidence that is known, as each stands first."""
    if not is_list(known) or not all([isinstance(evidence, Evidence) for evidence in known]):
        raise BadEvidence("known")
    found = {}
    for evidence in known:
        for piece in _pieces_in(evidence):
            found.setdefault(evidence_text(piece), piece)
    return list(found.values())


def buildable(known, places, evidence):
    """True if the evidence can be built out of what is known, with the keys of these places."""
    texts = [evidence_text(piece) for piece in opened(known)]
    keys = set_of(places, MOST_PLACES, "places")
    if not isinstance(evidence, Evidence):
        raise BadEvidence("evidence")
    return _is_built({text: True for text in texts}, keys, evidence)


def is_sending(system, phrase, nonce, row, run, records, *, memory=False):
    """True if records are a sending of the run; a value of any kind may be asked for."""
    check_session(system, phrase, nonce)
    handling = Handling(system, phrase, row, memory)
    check_length(handling.row, run)
    if not is_list(records) or len(records) != len(handling.row):
        return False
    sending = Sending(system, phrase, nonce)
    known = [clean_of(system, phrase, 0 if nonce == MOST_NONCE else nonce + 1)] if memory else []
    for i, (event, what) in enumerate(zip(handling.row, records)):
        bad_managed = handling.is_bad_managed(run, i)
        if sending.is_look(event):
            if not isinstance(what, bool) or not (bad_managed or _is_honest_word(system, handling, run, i, what)):
                return False
        else:
            handed = sending.handed_on(event)
            if not isinstance(what, Evidence):
                return False
            if what != handed and not (bad_managed and buildable([*known, handed], keys_out(system, run, i), what)):
                return False
            if bad_managed:
                known = [*known, handed, what]
        sending.put(event, what)
    return True


def _pieces_in(evidence):
    """A list of the pieces in the evidence, in reading order."""
    found = [evidence]
    for inner in evidence.insides():
        found = found + _pieces_in(inner)
    return found


def _is_built(texts, keys, evidence):
    """True if the evidence is a piece with one of the texts, or can be put together by these keys."""
    if isinstance(evidence, Nonce) or isinstance(evidence, Empty) or evidence_text(evidence) in texts:
        return True
    can_be_made = isinstance(evidence, Said) or isinstance(evidence, Pair)
    if not can_be_made and not (isinstance(evidence, Signed) and evidence.place in keys):
        return False
    return all([_is_built(texts, keys, inner) for inner in evidence.insides()])


def _is_honest_word(system, handling, run, i, word):
    """True if the word is honest for the look at position i."""
    measurer, target = handling.line[i]
    state = run.states[i]
    return meets(system.needs[measurer], state) or word == (target not in state)
