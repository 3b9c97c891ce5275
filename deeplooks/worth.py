"""What a phrase writes, and what of it comes into the evidence."""

from deeplooks.checks import JUDGE, check_phrase
from deeplooks.errors import BadPhrase, BadSet
from deeplooks.evidence import MOST_NONCE, Empty, Nonce, Pair, Said, Signed
from deeplooks.flows import copy_flows
from deeplooks.phrases import Ask, Branch, Look, Phrase, Sign, Then, look_many, sign_many
from deeplooks.sets import check_number, is_list


def evidence_of(system, phrase, nonce, words):
    """The evidence of the phrase for a nonce and a word, good or not, for each look."""
    check_phrase(system, phrase)
    check_number(nonce, 0, MOST_NONCE, "nonce")
    if not is_list(words) or len(words) != look_many(phrase):
        raise BadSet("words")
    return _written(phrase, JUDGE, Nonce(nonce), [bool(word) for word in words], 0, 0)


def clean_of(system, phrase, nonce):
    """The evidence of the phrase if each word is good."""
    check_phrase(system, phrase)
    return evidence_of(system, phrase, nonce, [True] * look_many(phrase))


def keeps(phrase):
    """How many times the evidence in hand stands in what the phrase writes."""
    return size_of(phrase)[1]


def size_of(phrase):
    """A tuple (own, keeps): with z knots in hand the phrase writes own + keeps * z knots."""
    _check_is_phrase(phrase)
    parts = phrase.parts_of()
    if not parts:
        return (1, 1)
    if isinstance(phrase, Ask):
        return size_of(phrase.asked)
    left_own, left_keeps = size_of(parts[0])
    right_own, right_keeps = size_of(parts[1])
    if isinstance(phrase, Then):
        return (right_own + right_keeps * left_own, left_keeps * right_keeps)
    own = 1 + left_own + right_own
    kept = 0
    for gets, many in ((phrase.keep_left, left_keeps), (phrase.keep_right, right_keeps)):
        # A part that gets nothing in hand writes the one knot of Empty in its place.
        if gets:
            kept = kept + many
        else:
            own = own + many
    return (own, kept)


def copies_of(phrase):
    """A tuple: for each look number the tuple of its copies, in reading order."""
    _check_is_phrase(phrase)
    return tuple([tuple([flow[0] for flow in flows]) for flows in copy_flows(phrase)])


def lost_looks(phrase):
    """The set of the numbers of the looks without a copy."""
    _check_is_phrase(phrase)
    lost = _lost(phrase, False)
    return tuple([number for number, is_lost in enumerate(lost) if is_lost])


def sign_holds(phrase, sign):
    """True if a nonce stands in what the sign with this number is put round."""
    _check_is_phrase(phrase)
    check_number(sign, 0, sign_many(phrase) - 1, "sign")
    return _signs_hold(phrase, True)[sign]


def _check_is_phrase(value):
    """BadPhrase if value is no phrase."""
    if not isinstance(value, Phrase):
        raise BadPhrase("phrase")


def _written(phrase, place, hand, words, look, sign):
    """What a phrase that stands at the place writes with this in hand.

    look and sign are the numbers of its first look and its first sign.
    """
    if isinstance(phrase, Look):
        return Said(look, phrase.measurer, phrase.target, words[look], hand)
    if isinstance(phrase, Sign):
        return Signed(sign, place, hand)
    if isinstance(phrase, Ask):
        return _written(phrase.asked, phrase.place, hand, words, look, sign)
    left, right = phrase.parts_of()
    right_look = look + look_many(left)
    right_sign = sign + sign_many(left)
    if isinstance(phrase, Then):
        first = _written(left, place, hand, words, look, sign)
        return _written(right, place, first, words, right_look, right_sign)
    left_hand = hand if phrase.keep_left else Empty()
    right_hand = hand if phrase.keep_right else Empty()
    left_piece = _written(left, place, left_hand, words, look, sign)
    return Pair(left_piece, _written(right, place, right_hand, words, right_look, right_sign))


def _lost(phrase, lost):
    """A list: for each look whether it is lost, if lost tells it of the phrase that this is in."""
    if isinstance(phrase, Look):
        return [lost]
    parts = phrase.parts_of()
    if isinstance(phrase, Then):
        return _lost(parts[0], lost or keeps(parts[1]) == 0) + _lost(parts[1], lost)
    found = []
    for part in parts:
        found = found + _lost(part, lost)
    return found


def _signs_hold(phrase, holds):
    """A list: for each sign whether a nonce is in what it signs; holds tells it of what is in hand."""
    if isinstance(phrase, Sign):
        return [holds]
    parts = phrase.parts_of()
    if isinstance(phrase, Then):
        return _signs_hold(parts[0], holds) + _signs_hold(parts[1], holds and keeps(parts[0]) > 0)
    if isinstance(phrase, Branch):
        left = _signs_hold(parts[0], holds and phrase.keep_left)
        return left + _signs_hold(parts[1], holds and phrase.keep_right)
    found = []
    for part in parts:
        found = found + _signs_hold(part, holds)
    return found
