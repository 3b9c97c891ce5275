"""A phrase laid out in its pieces: what belongs to each, and what is worked out in it.

The tree of a piece is a tuple that begins with a word: ("look", event, look number, measurer, target),
("sign", sign number), ("ask", event), ("then", tree, tree), ("branch", tree, tree, keep_left, keep_right).
What an ask asks is a piece of its own.

What was told so far stands in two dicts: hands, from an ask (-1 for the whole) to what is in hand first
in its piece; told, from a look's event to its word, and from an ask to the evidence that it writes.
"""

from deeplooks.checks import JUDGE
from deeplooks.events import events_of, order_of
from deeplooks.evidence import Empty, Pair, Said, Signed
from deeplooks.phrases import Ask, Look, Sign, Then


class Piece:
    """What one place does for an ask, or the judge for the whole phrase; last is the answer's event."""

    def __init__(self, ask, place, last, tree):
        self.ask = ask
        self.place = place
        self.last = last
        self.tree = tree
        self.look_events = _events_in(tree, "look")
        self.asks = _events_in(tree, "ask")


class Laying:
    """Numbers events, looks and signs from the left while a phrase is laid out."""

    def __init__(self):
        self.events = 0
        self.look_many = 0
        self.signs = 0
        self.pieces = []

    def tree_of(self, phrase):
        """The tree of the phrase; the pieces of its asks are put to the others."""
        if isinstance(phrase, Look):
            tree = ("look", self.events, self.look_many, phrase.measurer, phrase.target)
            self.events += 1
            self.look_many += 1
            return tree
        if isinstance(phrase, Sign):
            self.signs += 1
            return ("sign", self.signs - 1)
        if isinstance(phrase, Ask):
            return self._tree_of_ask(phrase)
        left, right = phrase.parts_of()
        first = self.tree_of(left)
        second = self.tree_of(right)
        if isinstance(phrase, Then):
            return ("then", first, second)
        return ("branch", first, second, phrase.keep_left, phrase.keep_right)

    def _tree_of_ask(self, ask):
        """The tree of an ask, whose piece is put to the others."""
        event = self.events
        self.events += 1
        tree = self.tree_of(ask.asked)
        self.pieces.append(Piece(event, ask.place, self.events, tree))
        self.events += 1
        return ("ask", event)


class Plan:
    """The events of a phrase that fits a system, their order, and its pieces."""

    def __init__(self, system, phrase):
        self.events = events_of(system, phrase)
        self.order = order_of(system, phrase)
        laying = Laying()
        tree = laying.tree_of(phrase)
        self.pieces = [Piece(JUDGE, JUDGE, None, tree)] + laying.pieces
        self.look_events = [number for number, event in enumerate(self.events) if event[0] == "look"]

    def pieces_of_place(self, place):
        """A list of the pieces that stand at the place, by the events of their asks."""
        found = {piece.ask: piece for piece in self.pieces if piece.place == place}
        return [found[ask] for ask in sorted(list(found))]

    def is_ask(self, event):
        """True if the number is that of an ask of the phrase."""
        return event < len(self.events) and self.events[event][0] == "ask"

    def ask_of_answer(self, event):
        """The ask to which this answer belongs."""
        for piece in self.pieces:
            if piece.last == event:
                return piece.ask
        return None

    def handed_on(self, event, hands, told):
        """The evidence in hand at an ask, or what the piece of an answer writes."""
        for piece in self.pieces:
            if event in piece.asks:
                return _hand_at(piece.tree, piece.place, hands[piece.ask], event, told)
            if event == piece.last:
                return written(piece.tree, piece.place, hands[piece.ask], told)
        return None

    def whole(self, hands, told):
        """What the whole phrase writes."""
        return written(self.pieces[0].tree, JUDGE, hands[JUDGE], told)


def written(tree, place, hand, told):
    """What a tree at the place writes with this in hand."""
    if tree[0] == "look":
        _, event, look, measurer, target = tree
        return Said(look, measurer, target, told[event], hand)
    if tree[0] == "sign":
        return Signed(tree[1], place, hand)
    if tree[0] == "ask":
        return told[tree[1]]
    if tree[0] == "then":
        return written(tree[2], place, written(tree[1], place, hand, told), told)
    left = written(tree[1], place, hand if tree[3] else Empty(), told)
    return Pair(left, written(tree[2], place, hand if tree[4] else Empty(), told))


def _hand_at(tree, place, hand, event, told):
    """The evidence in hand at the ask with this event, which the tree holds."""
    if tree[0] == "ask":
        return hand
    if event in _events_in(tree[1], "ask"):
        gets = tree[0] == "then" or tree[3]
        return _hand_at(tree[1], place, hand if gets else Empty(), event, told)
    if tree[0] == "then":
        return _hand_at(tree[2], place, written(tree[1], place, hand, told), event, told)
    return _hand_at(tree[2], place, hand if tree[4] else Empty(), event, told)


def _events_in(tree, kind):
    """A list of the events of the looks, or of the asks, of the tree."""
    if tree[0] == kind:
        return [tree[1]]
    if tree[0] == "then" or tree[0] == "branch":
        return _events_in(tree[1], kind) + _events_in(tree[2], kind)
    return []
