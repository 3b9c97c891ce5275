"""Start looks and sealed keys by the words of points 190 to 192; runs drawn deed by deed."""

from deeplooks.checks import event_many
from deeplooks.deeds import played
from deeplooks.events import events_of
from deeplooks.evidence import Broken, Pair, Said, Signed
from deeplooks.phrases import Ask, Look, Sign, Then, beside, in_turn
from deeplooks.starts import Starts
from deeplooks.systems import System
from deeplooks.ways import all_ways
from deeplooks.worth import clean_of, copies_of
from tests.slowruns import allowed


def drawn_run(chance, foe, length, deeds=3):
    """A run of the foe, played with drawn deeds."""
    start = [part for part in foe.early if chance.random() < 0.6]
    bad, gaps = frozenset(start), []
    for _ in range(length + 1):
        gap = []
        for _ in range(chance.randrange(deeds + 1)):
            choices = list(allowed(foe, bad))
            if choices:
                deed, bad = chance.choice(choices)
                gap.append(deed)
        gaps.append(gap)
    return played(foe, start, gaps)


def signs_in(evidence):
    """The places of all signed pieces in the evidence."""
    found = [evidence.place] if isinstance(evidence, Signed) else []
    for inner in evidence.insides():
        found += signs_in(inner)
    return found


def start_looks(starts):
    """All start looks, each with its place."""
    return [(place, look) for place, row in enumerate(starts.rows) for look in row]


def counting(starts, phrase):
    """The set of the places that count."""
    return sorted(set(signs_in(clean_of(starts.system, phrase, 0))) & set(starts.sealed))


class Joined:
    """A row of events behind the start looks, and what runs on the joined line find there."""

    def __init__(self, starts, phrase, row):
        self.starts, self.system, self.phrase, self.row = starts, starts.system, phrase, list(row)
        self.first = len(start_looks(starts))
        events = events_of(self.system, phrase)
        self.line = [look for _, look in start_looks(starts)]
        self.line += [events[e][2:] if events[e][0] == "look" else None for e in row]
        self.looks = [e for e, event in enumerate(events) if event[0] == "look"]
        self.events = events
        self.counts = counting(starts, phrase)
        self.ways = all_ways(self.system, phrase)
        self.paths = {path: (look, k) for look, paths in enumerate(copies_of(phrase)) for k, path in enumerate(paths)}

    def is_out(self, run, place, i):
        """True if the key of the place is out at position i."""
        first = self.first if place in self.starts.sealed else 0
        return any(self.system.managers[place] in run.moments[gap] for gap in range(first, i + 1))

    def changes(self, run, look, k):
        """True if copy k of the look is changeable."""
        for event, place, signs in self.ways[look][k]:
            i = self.first + self.row.index(event)
            if place != -1 and self.system.managers[place] in run.states[i]:
                if all(self.is_out(run, at, i) for _, at in signs):
                    return True
        return False

    def grounded(self, run, i):
        """True if the measurer of the look at position i is grounded."""
        return not set(self.system.needs[self.line[i][0]]) & set(run.states[i])

    def heard(self, run, i):
        """True if the look at position i is honestly bad."""
        return self.line[i] is not None and self.line[i][1] in run.states[i] and self.grounded(run, i)

    def covered(self, run, i):
        """True if position i is covered."""
        if self.line[i] is None or not self.grounded(run, i):
            return True
        if i < self.first:
            return start_looks(self.starts)[i][0] not in self.counts
        look = self.looks.index(self.row[i - self.first])
        return all(self.changes(run, look, k) for k in range(len(self.ways[look])))

    def taken(self, run):
        """True if each look finds its target good or is covered."""
        return all(not look or look[1] not in run.states[i] or self.covered(run, i) for i, look in enumerate(self.line))

    def unclean(self, run):
        """The sealed places with a start look that says bad."""
        said = {place for i, (place, _) in enumerate(start_looks(self.starts)) if self.heard(run, i)}
        return said & set(self.starts.sealed)

    def evidence(self, run, nonce):
        """The sealed evidence of the run."""
        bad = {self.looks.index(self.row[i - self.first]) for i in range(self.first, len(self.line)) if self.heard(run, i)}
        return self.written(clean_of(self.system, self.phrase, nonce), (), run, bad, self.unclean(run))

    def written(self, piece, path, run, bad, unclean):
        """The piece at the path, with bad words and broken pieces."""
        if isinstance(piece, Signed):
            if piece.place in unclean:
                return Broken(piece.place)
            return Signed(piece.sign, piece.place, self.written(piece.inner, (*path, "in"), run, bad, unclean))
        if isinstance(piece, Said):
            look, k = self.paths[path]
            good = look not in bad or self.changes(run, look, k)
            inner = self.written(piece.inner, (*path, "in"), run, bad, unclean)
            return Said(piece.look, piece.measurer, piece.target, good, inner)
        if isinstance(piece, Pair):
            return Pair(self.written(piece.left, (*path, "left"), run, bad, unclean),
                        self.written(piece.right, (*path, "right"), run, bad, unclean))
        return piece


def some_starts(chance, system, most=2):
    """Starts of the system."""
    rows = []
    for place in range(system.places):
        home = [p for p in range(system.many) if system.homes[p] == place]
        pairs = [(a, b) for a in home for b in home]
        rows.append([max(chance.choice(pairs), chance.choice(pairs), key=lambda look: look[0] != look[1])
                     for _ in range(chance.randrange(most + 1))])
    return Starts(system, rows, [place for place in range(system.places) if chance.random() < 0.7])


def small_system(chance, many):
    """A system of at most two places."""
    homes = [0] + [chance.randrange(2) for _ in range(many - 1)]
    if 1 not in homes and many > 1 and chance.random() < 0.7:
        homes[-1] = 1
    places = max(homes) + 1
    needs = [[p for p in range(many) if chance.random() < 0.2] for _ in range(many)]
    return System(places, homes, needs, [homes.index(place) for place in range(places)])


def small_phrase(chance, system, events):
    """A phrase that fits the system, of at most so many events."""
    def leaf(place):
        home = [p for p in range(system.many) if system.homes[p] == place]
        return Look(chance.choice(home), chance.randrange(system.many)) if chance.random() < 0.6 else Sign()

    def made(place, deep):
        kind = chance.random()
        if deep == 0 or kind < 0.3:
            return leaf(place)
        if kind < 0.5:
            inner = chance.randrange(system.places)
            return Ask(inner, made(inner, deep - 1))
        pair = made(place, deep - 1), made(place, deep - 1)
        return in_turn(*pair) if kind < 0.8 else beside(*pair, together=chance.random() < 0.5)
    while True:
        place = chance.randrange(system.places)
        phrase = Ask(place, made(place, 3))
        if chance.random() < 0.3:
            phrase = Then(phrase, Ask(0, leaf(0)))
        if event_many(phrase) <= events:
            return phrase
