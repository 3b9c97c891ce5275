"""A machine: the stations of one session, and the bag of letters between them."""

from deeplooks.checks import JUDGE
from deeplooks.errors import BadStep
from deeplooks.evidence import Evidence
from deeplooks.letters import Letter, letters_by
from deeplooks.logs import check_place, check_session, has_ended, honest_evidence, told_by
from deeplooks.plans import Plan
from deeplooks.records import ASKED, BEGUN, DONE, GOT, SAID, Record
from deeplooks.sets import is_int, is_list
from deeplooks.stations import Station

RECORDS_OF_ASK = 4


class Machine:
    """Runs one session of a phrase: events are recorded, letters sent and brought, places fall."""

    def __init__(self, system, phrase, nonce, *, old=()):
        check_session(system, phrase, nonce)
        if not _are_old(old, nonce):
            raise BadStep("old")
        self._system = system
        self._phrase = phrase
        self._nonce = nonce
        self._plan = Plan(system, phrase)
        self._stations = {place: Station(system, phrase, nonce, place) for place in range(JUDGE, system.places)}
        self._bag = []
        self._done = []
        self._left = len(self._plan.look_events) + RECORDS_OF_ASK * (len(self._plan.pieces) - 1)
        for letter in old:
            self._put_into_bag(letter)

    def ready(self):
        """The set of the events that are ready at some place."""
        found = []
        for station in self._stations.values():
            found = found + list(station.ready())
        return tuple(sorted(found))

    def do(self, event, *, word=True, sent=None, cut=None):
        """Record the event: True, or False if it was written with a cut."""
        if not is_int(event) or event not in self.ready():
            raise BadStep("event")
        kind, place = self._plan.events[event][:2]
        if sent is not None and (kind == "look" or not isinstance(sent, Evidence)):
            raise BadStep("sent")
        station = self._stations[place]
        if kind == "look":
            record = Record(SAID, event, bool(word))
        else:
            what = honest_evidence(self._plan, self._nonce, station.records(), event) if sent is None else sent
            record = Record(ASKED, event, what)
            if kind == "answer":
                record = Record(DONE, self._plan.ask_of_answer(event), what)
        written = self._write(place, record, cut)
        if written:
            self._done.append(event)
        return written

    def letters(self):
        """A tuple of the letters that may be sent, also of those that were sent before."""
        found = []
        for station in self._stations.values():
            found = found + letters_by(self._nonce, station.records())
        return tuple(found)

    def send(self, letter):
        """Put a letter that may be sent into the bag."""
        if not isinstance(letter, Letter) or letter not in self.letters():
            raise BadStep("letter")
        self._put_into_bag(letter)

    def bag(self):
        """A tuple of the different letters in the bag, in the order in which they came."""
        return tuple(self._bag)

    def waits_for(self, letter):
        """True if some place waits for the letter."""
        if not isinstance(letter, Letter) or letter.nonce != self._nonce or not self._plan.is_ask(letter.ask):
            return False
        kinds = self._kinds_of_ask(self._place_for(letter), letter.ask)
        if letter.back:
            return ASKED in kinds and GOT not in kinds
        return BEGUN not in kinds

    def bring(self, letter, *, cut=None):
        """Bring a letter of the bag: True if it is recorded."""
        if not isinstance(letter, Letter) or letter not in self._bag:
            raise BadStep("letter")
        if not self.waits_for(letter):
            return False
        record = Record(GOT if letter.back else BEGUN, letter.ask, letter.evidence)
        return self._write(self._place_for(letter), record, cut)

    def fall(self, place):
        """Let the place fall and begin anew."""
        check_place(self._system, place)
        self._stations[place].fall()

    def log_of(self, place):
        """The text of the log of the place."""
        check_place(self._system, place)
        return self._stations[place].log()

    def recorded(self):
        """A tuple of the recorded events in the order of their records."""
        return tuple(self._done)

    def words(self):
        """A dict from the look numbers of the recorded looks to their words."""
        found = {}
        for station in self._stations.values():
            for record in station.records():
                if record.kind == SAID:
                    found[self._plan.look_events.index(record.event)] = record.what
        return found

    def answer(self):
        """The answer, None if there is none yet."""
        records = self._stations[JUDGE].records()
        marks = {(record.kind, record.event): True for record in records}
        if not has_ended(self._plan.pieces[0], marks):
            return None
        hands, told = told_by(self._nonce, records)
        return self._plan.whole(hands, told)

    @property
    def missing(self):
        """How many events and records the machine misses."""
        return self._left

    def twin(self):
        """A new machine with the same logs, bag and recorded events."""
        other = Machine(self._system, self._phrase, self._nonce)
        for place in list(self._stations):
            for record in self._stations[place].records():
                other._write(place, record, None)
        other._bag = list(self._bag)
        other._done = list(self._done)
        return other

    def _put_into_bag(self, letter):
        """Put the letter into the bag, unless an equal one is there."""
        if letter not in self._bag:
            self._bag.append(letter)

    def _write(self, place, record, cut):
        """Write the record at the place, with a cut if it is not None; what is written misses no more."""
        written = self._stations[place].write(record, cut=cut)
        if written:
            self._left -= 1
        return written

    def _place_for(self, letter):
        """The place to which a letter of an ask of the phrase is brought."""
        _, asking, asked = self._plan.events[letter.ask]
        return asking if letter.back else asked

    def _kinds_of_ask(self, place, ask):
        """A list of the kinds of the records of the ask at the place."""
        records = self._stations[place].records()
        return [record.kind for record in records if record.event == ask]


def _are_old(value, nonce):
    """True if value is a list or tuple of letters of other sessions."""
    if not is_list(value):
        return False
    return all([isinstance(letter, Letter) and letter.nonce != nonce for letter in value])
