"""Evidence written piece by piece, straight from points 63 and 67, with the way of each word kept.

A piece is a list: ["nonce", number], ["empty"], ["word", look, measurer, target, good, inner, steps],
["sign", number, place, inner], ["pair", left, right]. The steps of a word are put down as it goes.
"""

import copy

from deeplooks.phrases import Ask, Look, Sign, Then


class Writer:
    """Writes what a phrase writes; events, looks and signs are counted as they come."""

    def __init__(self, words):
        self.words = words
        self.events = 0
        self.looks = 0
        self.signs = 0
        self.held = {}

    def write(self, phrase, place, hand):
        """What the phrase writes with this piece in hand."""
        if isinstance(phrase, Look):
            look, event = self.looks, self.events
            self.looks += 1
            self.events += 1
            steps = [(event, place, ())]
            return ["word", look, phrase.measurer, phrase.target, bool(self.words[look]), hand, steps]
        if isinstance(phrase, Sign):
            number = self.signs
            self.signs += 1
            self.held[number] = "#" in text_of(hand)
            return ["sign", number, place, hand]
        if isinstance(phrase, Ask):
            goes(hand, self.events, place, ())
            self.events += 1
            made = self.write(phrase.asked, phrase.place, hand)
            goes(made, self.events, phrase.place, ())
            self.events += 1
            return made
        if isinstance(phrase, Then):
            return self.write(phrase.second, place, self.write(phrase.first, place, hand))
        left_hand = copy.deepcopy(hand) if phrase.keep_left else ["empty"]
        right_hand = copy.deepcopy(hand) if phrase.keep_right else ["empty"]
        left = self.write(phrase.left, place, left_hand)
        return ["pair", left, self.write(phrase.right, place, right_hand)]


def goes(piece, event, place, signs):
    """Puts the step of the event down at each word in the piece; signs stand round the piece."""
    if piece[0] == "word":
        piece[6].append((event, place, signs))
        goes(piece[5], event, place, signs)
    if piece[0] == "sign":
        goes(piece[3], event, place, ((piece[1], piece[2]),) + signs)
    if piece[0] == "pair":
        goes(piece[1], event, place, signs)
        goes(piece[2], event, place, signs)


def text_of(piece):
    """The text of the piece, by point 70."""
    if piece[0] == "nonce":
        return "#" + str(piece[1])
    if piece[0] == "empty":
        return "_"
    if piece[0] == "word":
        return f"{piece[1]}:{piece[2]}>{piece[3]}{'+' if piece[4] else '-'}({text_of(piece[5])})"
    if piece[0] == "sign":
        return f"!{piece[1]}@{piece[2]}({text_of(piece[3])})"
    return f"[{text_of(piece[1])},{text_of(piece[2])}]"


def words_of(piece, path=()):
    """The path, the look, the word and the steps of each word in the piece, in reading order."""
    if piece[0] == "word":
        inner = words_of(piece[5], path + ("in",))
        return [(path, piece[1], piece[4], tuple(piece[6]))] + inner
    if piece[0] == "sign":
        return words_of(piece[3], path + ("in",))
    if piece[0] == "pair":
        return words_of(piece[1], path + ("left",)) + words_of(piece[2], path + ("right",))
    return []


def knots_of(piece):
    """The number of pieces, by the signs that stand for them in the text."""
    text = text_of(piece)
    return sum(text.count(sign) for sign in "#_:![")


def hands_in(phrase):
    """How many times the evidence in hand stands in what the phrase writes, and the knots without it."""
    many = len(phrase.leaves())
    piece = Writer([True] * many).write(phrase, 0, ["nonce", 1])
    text = text_of(piece)
    return knots_of(piece) - text.count("#"), text.count("#")
