"""Changed words by the words of section 9: drawn runs, copies that are changeable, sendings as texts."""

from deeplooks.checks import event_many
from deeplooks.evidence import Said, Signed, at_path, put_at, words_in
from deeplooks.evidencetexts import evidence_from, evidence_text
from deeplooks.events import events_of, order_of
from deeplooks.foes import Foe
from deeplooks.phrases import Ask, Branch, Look, Sign, Then
from deeplooks.rows import extremes, is_row
from deeplooks.runs import Run
from deeplooks.systems import System
from deeplooks.ways import way_of
from deeplooks.worth import clean_of, copies_of, sign_holds
from tests.fitting import fitting_phrases, mark_phrases
from tests.slowmachine import Worth

# Each part of it can be bad at any time, so all forms are forms of its runs.
FREE = Foe(8, list(range(8)), [((), part) for part in range(8)])


def some_four(chance):
    """A system with the homes of FOUR, and any needs and managers."""
    needs = [[p for p in range(8) if chance.random() < 0.12] for _ in range(8)]
    return System(4, [0, 0, 1, 1, 2, 2, 3, 3], needs, [2 * q + chance.randrange(2) for q in range(4)])


def phrases_to_change(seed, count, events=12):
    """Phrases that fit each such system, with few enough copies to go through."""
    for phrase in list(fitting_phrases(seed, count, events)) + list(mark_phrases())[::31]:
        if sum(len(copies) for copies in copies_of(phrase)) <= 24:
            yield phrase


def memory_phrases(chance, count):
    """Phrases with signs that hold no nonce, put round words that go on from there."""
    while count:
        p, q, r = (chance.randrange(4) for _ in range(3))
        look = Look(2 * q + chance.randrange(2), chance.randrange(8))
        inner = Ask(q, Then(look, chance.choice([Sign(), Then(Sign(), Ask(r, Sign())), Ask(r, Sign())])))
        other = chance.choice([Sign(), Look(2 * p, chance.randrange(8)), Ask(r, Sign())])
        both = Branch(inner, other, keep_left=False, keep_right=chance.random() < 0.5, together=chance.random() < 0.5)
        whole = Ask(p, chance.choice([both, Then(both, Sign()), Then(Sign(), both), Then(both, Ask(r, Sign()))]))
        phrase = chance.choice([whole, Ask(r, Then(whole, Sign())), Ask(r, Then(Sign(), whole))])
        if event_many(phrase) <= 12:
            count -= 1
            yield phrase


def some_row(chance, system, phrase):
    """A row of the events of the phrase."""
    order = order_of(system, phrase)
    row = []
    while len(row) < order.size:
        row.append(chance.choice(order.ready(row)))
    return row


def some_form(chance, parts, length, bad=0.35):
    """A form of a run of FREE in which only these parts are ever bad."""
    def drawn(rate):
        return {part for part in parts if chance.random() < rate}
    moments, states = [], []
    held = set()
    for _ in range(length):
        held = held | drawn(bad / 2)
        moments.append(sorted(held))
        held = {part for part in held if chance.random() < 0.6}
        states.append(sorted(held))
    return Run(moments + [sorted(held)], states)


def is_out(system, run, place, i):
    """True if the key of the place is out at position i, by point 121."""
    return any(system.managers[place] in run.moments[gap] for gap in range(i + 1))


def is_bad_managed(system, phrase, row, run, i):
    """True if position i is bad-managed."""
    place = events_of(system, phrase)[row[i]][1]
    return place != -1 and system.managers[place] in run.states[i]


def heard(system, phrase, row, run):
    """A dict from the numbers of the honestly bad looks to their positions."""
    events = events_of(system, phrase)
    looks = [e for e, event in enumerate(events) if event[0] == "look"]
    found = {}
    for number, e in enumerate(looks):
        i = row.index(e)
        _, _, a, b = events[e]
        if b in run.states[i] and not set(system.needs[a]) & set(run.states[i]):
            found[number] = i
    return found


def steps_changed(system, phrase, row, run, path, memory):
    """The indexes of the steps at which the copy is changeable, by point 124."""
    found = []
    for k, (event, _, signs) in enumerate(way_of(system, phrase, path)):
        i = row.index(event)
        asked = [place for sign, place in signs if not memory or sign_holds(phrase, sign)]
        if is_bad_managed(system, phrase, row, run, i) and all(is_out(system, run, place, i) for place in asked):
            found.append(k)
    return tuple(found)


def copies_kept(system, phrase, row, run, memory):
    """The copies of honestly bad looks that are not changeable, in reading order."""
    copies = copies_of(phrase)
    return sorted(path for number in heard(system, phrase, row, run) for path in copies[number]
                  if not steps_changed(system, phrase, row, run, path, memory))


def with_words(evidence, paths, good):
    """The evidence with this word at each of the paths."""
    for path in paths:
        said = at_path(evidence, path)
        evidence = put_at(evidence, path, Said(said.look, said.measurer, said.target, good, said.inner))
    return evidence


class Records:
    """Records of the events ahead, as texts, and what is handed on by them."""

    def __init__(self, system, phrase, nonce):
        self.phrase, self.nonce = phrase, nonce
        self.events = events_of(system, phrase)
        self.entries = []
        self.asks = {}
        around = []
        for number, event in enumerate(self.events):
            if event[0] == "ask":
                around.append(number)
            if event[0] == "answer":
                self.asks[number] = around.pop()

    def put(self, event, what):
        """Takes the record of an event to those ahead."""
        kind = self.events[event][0]
        if kind == "look":
            self.entries.append(("said", event, "+" if what else "-"))
        elif kind == "ask":
            self.entries.append(("begun", event, evidence_text(what)))
        else:
            self.entries.append(("got", self.asks[event], evidence_text(what)))

    def handed_on(self, event):
        """What is handed on at the ask or answer."""
        worth = Worth(self.phrase, self.nonce, self.entries)
        text = worth.hands[event] if self.events[event][0] == "ask" else worth.writes[self.asks[event]]
        return evidence_from(text)

    def last(self):
        """The last evidence."""
        return evidence_from(Worth(self.phrase, self.nonce, self.entries).writes[-1])


def cleared(system, phrase, run, i, handed, memory):
    """What is handed on, with good words where point 126 puts them."""
    clean = evidence_text(clean_of(system, phrase, 0))
    paths = []
    for path, _, good in words_in(handed):
        round_it = [at_path(handed, path[:k]) for k in range(len(path))]
        signs = [piece for piece in round_it if isinstance(piece, Signed)]
        free = [is_out(system, run, piece.place, i) or
                memory and f"!{piece.sign}@" in clean and not sign_holds(phrase, piece.sign) for piece in signs]
        if not good and all(free):
            paths.append(path)
    return with_words(handed, paths, True)


def full_sending(system, phrase, nonce, row, run, memory):
    """The records of the full sending and its last evidence, by point 126."""
    records, told = Records(system, phrase, nonce), []
    bad = {row[i] for i in heard(system, phrase, row, run).values()}
    for i, event in enumerate(row):
        managed = is_bad_managed(system, phrase, row, run, i)
        if records.events[event][0] == "look":
            what = not (event in bad and not managed)
        else:
            what = records.handed_on(event)
            if managed:
                what = cleared(system, phrase, run, i, what, memory)
        records.put(event, what)
        told.append(what)
    return told, records.last()


def first_extreme(system, phrase):
    """One row of the events of the phrase."""
    row = list(extremes(system, phrase)[0])
    assert is_row(order_of(system, phrase), row)
    return row
