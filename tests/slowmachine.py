"""The machine by the words of section 6: logs as lists of lines, evidence as texts, nothing kept besides.

An entry of a log is a tuple (kind, event, text), the text "+" or "-" for a word.
"""

from deeplooks.events import events_of, order_of
from deeplooks.phrases import Ask, Look, Sign, Then


class Worth:
    """What is in hand at each ask, and what each piece writes, as texts; None where the log does not tell it."""

    def __init__(self, phrase, nonce, entries):
        self.entries = {(kind, event): text for kind, event, text in entries}
        self.events = self.looks = self.signs = 0
        self.hands = {}
        self.writes = {}
        self.writes[-1] = self.walk(phrase, -1, f"#{nonce}")

    def walk(self, phrase, place, hand):
        """What the phrase writes with this text in hand."""
        if isinstance(phrase, Look):
            word = self.entries.get(("said", self.events))
            head = f"{self.looks}:{phrase.measurer}>{phrase.target}{word}"
            self.events += 1
            self.looks += 1
            return None if word is None or hand is None else f"{head}({hand})"
        if isinstance(phrase, Sign):
            self.signs += 1
            return None if hand is None else f"!{self.signs - 1}@{place}({hand})"
        if isinstance(phrase, Ask):
            ask = self.events
            self.hands[ask] = hand
            self.events += 1
            self.writes[ask] = self.walk(phrase.asked, phrase.place, self.entries.get(("begun", ask)))
            self.events += 1
            return self.entries.get(("got", ask))
        if isinstance(phrase, Then):
            return self.walk(phrase.second, place, self.walk(phrase.first, place, hand))
        left = self.walk(phrase.left, place, hand if phrase.keep_left else "_")
        right = self.walk(phrase.right, place, hand if phrase.keep_right else "_")
        return None if left is None or right is None else f"[{left},{right}]"


class Shape:
    """Which events belong to which piece, and the answers of the asks."""

    def __init__(self, system, phrase):
        self.events = events_of(system, phrase)
        self.order = order_of(system, phrase)
        self.answers = {}
        self.belongs = {}
        around = [-1]
        for number, event in enumerate(self.events):
            if event[0] == "answer":
                ask = around.pop()
                self.answers[number] = ask
                self.belongs[number] = ask
            else:
                self.belongs[number] = around[-1]
            if event[0] == "ask":
                around.append(number)

    def place_of_piece(self, ask):
        """The place at which the piece stands."""
        return -1 if ask == -1 else self.events[ask][2]

    def asks(self):
        """All asks."""
        return [number for number, event in enumerate(self.events) if event[0] == "ask"]

    def fits(self, kind, number):
        """True if the event is of the kind that records of this kind have."""
        wanted = "look" if kind == "said" else "ask"
        return number < len(self.events) and self.events[number][0] == wanted

    def ready(self, place, entries):
        """The events that are ready at the place, by point 79."""
        held = {(kind, event) for kind, event, _ in entries if self.fits(kind, event)}
        found = []
        for number, event in enumerate(self.events):
            piece = self.belongs[number]
            if self.place_of_piece(piece) != place or not (piece == -1 or ("begun", piece) in held):
                continue
            members = [e for e in self.belongs if self.belongs[e] == piece and e not in self.answers]
            ended = [e for e in members if ("said", e) in held or ("got", e) in held]
            if event[0] == "answer":
                done = ("done", self.answers[number]) in held
                ahead = members
            else:
                done = ("said", number) in held or ("asked", number) in held
                ahead = [e for e in members if self.order.before(e, number)]
            if not done and all(e in ended for e in ahead):
                found.append(number)
        return tuple(found)


class Model:
    """All logs of a session, the bag and the recorded events, by points 76 to 85."""

    def __init__(self, system, phrase, nonce):
        self.shape = Shape(system, phrase)
        self.phrase = phrase
        self.nonce = nonce
        self.logs = {place: [] for place in range(-1, system.places)}
        self.done = []
        self.bag = []

    def copy(self):
        """Another model that stands where this one stands."""
        other = Model.__new__(Model)
        other.shape, other.phrase, other.nonce = self.shape, self.phrase, self.nonce
        other.logs = {place: list(entries) for place, entries in self.logs.items()}
        other.done, other.bag = list(self.done), list(self.bag)
        return other

    def text(self, place):
        """The text of the log of the place."""
        return "".join(f"{kind} {event} {text}\n" for kind, event, text in self.logs[place])

    def ready(self):
        """All events that are ready."""
        return tuple(sorted(e for place in self.logs for e in self.shape.ready(place, self.logs[place])))

    def place_of(self, event):
        """The place at which the event is recorded."""
        return self.shape.events[event][1]

    def entry(self, event, what=None):
        """The entry that records the event, honest if what is None."""
        kind = self.shape.events[event][0]
        if kind == "look":
            return ("said", event, what or "+")
        worth = Worth(self.phrase, self.nonce, self.logs[self.place_of(event)])
        if kind == "ask":
            return ("asked", event, what or worth.hands[event])
        ask = self.shape.answers[event]
        return ("done", ask, what or worth.writes[ask])

    def do(self, event, what=None):
        """Records the event."""
        self.logs[self.place_of(event)].append(self.entry(event, what))
        self.done.append(event)

    def letters(self):
        """The letters that may be sent, as tuples (ask, way, text)."""
        return [(event, "to" if kind == "asked" else "back", text)
                for entries in self.logs.values() for kind, event, text in entries if kind in ("asked", "done")]

    def goal(self, letter):
        """The place to which the letter goes, and the kind of its record."""
        ask, way, _ = letter
        event = self.shape.events[ask]
        return (event[2], "begun") if way == "to" else (event[1], "got")

    def waits_for(self, letter):
        """True if the place waits for a letter of this session and an ask of the phrase."""
        place, kind = self.goal(letter)
        held = {(k, e) for k, e, _ in self.logs[place]}
        if kind == "begun":
            return ("begun", letter[0]) not in held
        return ("asked", letter[0]) in held and ("got", letter[0]) not in held

    def bring(self, letter):
        """Records the letter."""
        place, kind = self.goal(letter)
        self.logs[place].append((kind, letter[0], letter[2]))

    def answer(self):
        """The text of the answer, None if there is none."""
        return Worth(self.phrase, self.nonce, self.logs[-1]).writes[-1] if self.is_ended() else None

    def is_ended(self):
        """True if all events of the judge's piece are ended."""
        held = {(kind, event) for kind, event, _ in self.logs[-1]}
        return all(("got", e) in held for e, piece in self.shape.belongs.items() if piece == -1)

    def missing(self):
        """How many events and records there are not yet."""
        kinds = [kind for entries in self.logs.values() for kind, _, _ in entries]
        asks = len(self.shape.asks())
        at_first = len(self.shape.events) - 2 * asks + 4 * asks
        return at_first - len(kinds)

    def fewest_left(self):
        """How many deeds are left at least, by point 85."""
        more = 0
        held = {(kind, event) for entries in self.logs.values() for kind, event, _ in entries}
        for ask in self.shape.asks():
            for kind, way in (("begun", "to"), ("got", "back")):
                in_bag = any(letter[:2] == (ask, way) for letter in self.bag)
                more += (kind, ask) not in held and not in_bag
        return self.missing() + more
