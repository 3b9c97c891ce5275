"""Phrases at random that fit the system FOUR, with every mark, asks within asks, and signs."""

from deeplooks.checks import check_phrase, event_many
from deeplooks.errors import BadPhrase
from deeplooks.phrases import Ask, Branch, Look, Sign, Then
from tests.helpers import FOUR, seeded, some_phrase


def fitting_phrases(seed, count, events=12):
    """So many phrases that fit FOUR and have at most so many events."""
    chance = seeded(seed)
    found = 0
    while found < count:
        phrase = some_phrase(chance, chance.randrange(2, 9))
        if chance.random() < 0.3:
            other = some_phrase(chance, 4)
            phrase = Then(phrase, other) if chance.random() < 0.5 else Branch(phrase, other, together=True)
        if fits(phrase) and event_many(phrase) <= events:
            found += 1
            yield phrase


def fits(phrase):
    """True if the phrase fits FOUR."""
    try:
        check_phrase(FOUR, phrase)
    except BadPhrase:
        return False
    return True


def all_marks(left, right):
    """The branches of the two phrases with each of the eight marks."""
    return [Branch(left, right, keep_left=a, keep_right=b, together=c)
            for c in (False, True) for a in (False, True) for b in (False, True)]


def mark_phrases():
    """Small phrases that fit FOUR, with each mark within each mark, ahead of and behind a then."""
    inner = all_marks(Then(Look(0, 1), Sign()), Look(1, 2)) + all_marks(Ask(1, Then(Look(2, 0), Sign())), Sign())
    for branch in inner:
        yield Ask(0, branch)
        yield Ask(0, Then(branch, Look(0, 3)))
        yield Ask(0, Then(Then(Look(0, 3), Sign()), branch))
        for outer in all_marks(branch, Ask(0, Then(Sign(), Look(1, 0)))):
            yield Ask(0, Then(Look(1, 7), outer))
