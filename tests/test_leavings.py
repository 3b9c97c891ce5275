"""Points 136 to 140: leavings, bare phrases, phrases without signs, signed at spots, full signing."""

import unittest

from deeplooks.changing import changeable, unread
from deeplooks.checks import check_phrase, event_many
from deeplooks.errors import BadPhrase, BadSet
from deeplooks.events import events_of, look_order, order_of
from deeplooks.leavings import bare, full_signing, leavings, signed_at, without_signs
from deeplooks.phrases import Ask, Branch, Look, Sign, Then, depth, in_turn, sign_many
from deeplooks.phrasetexts import phrase_from, phrase_text
from deeplooks.ways import all_ways, left_before, round_of
from deeplooks.worth import copies_of
from tests.fitting import fits, fitting_phrases, mark_phrases
from tests.helpers import FOUR, NO_LISTS, ODD, Case, seeded
from tests.slowchanging import is_bad_managed, is_out, some_form, some_four, some_row
from tests.test_phrases import NO_PHRASES


def holds_event(phrase):
    """True if the phrase has a look or an ask."""
    return isinstance(phrase, (Look, Ask)) or any(holds_event(part) for part in phrase.parts_of())


def all_parts(phrase):
    """The phrase and all phrases in it."""
    return [phrase] + [inner for part in phrase.parts_of() for inner in all_parts(part)]


def is_bare(phrase):
    """True if the phrase is bare, by point 136."""
    wanted = [phrase] + [part for one in all_parts(phrase) if isinstance(one, (Ask, Branch)) for part in one.parts_of()]
    return not all(holds_event(one) for one in wanted)


def unsigned_text(phrase):
    """The text of the phrase with each sign taken out, None if nothing is left."""
    if isinstance(phrase, Sign):
        return None
    texts = [unsigned_text(part) for part in phrase.parts_of()]
    if isinstance(phrase, Then) and None in texts:
        return texts[0] if texts[1] is None else texts[1]
    if isinstance(phrase, Then):
        return f"({texts[0]} -> {texts[1]})"
    if isinstance(phrase, Ask):
        return f"@{phrase.place}({texts[0]})"
    if isinstance(phrase, Branch):
        return f"({texts[0]} {Branch.MARKS[4 * phrase.together + 2 * phrase.keep_left + phrase.keep_right]} {texts[1]})"
    return phrase_text(phrase)


class Signer:
    """Writes the text of the phrase signed at spots, events counted as they come."""

    def __init__(self, spots):
        self.spots = spots
        self.events = 0

    def text(self, phrase):
        """The text of the phrase, which has no signs, signed at the spots."""
        if isinstance(phrase, Look):
            self.events += 1
            return phrase_text(phrase)
        if isinstance(phrase, Ask):
            ask = self.events
            self.events += 1
            inner = self.text(phrase.asked)
            if self.events in self.spots:
                inner = f"({inner} -> !)"
            self.events += 1
            whole = f"@{phrase.place}({inner})"
            return f"(! -> {whole})" if ask in self.spots else whole
        left, right = [self.text(part) for part in phrase.parts_of()]
        mark = "->"
        if isinstance(phrase, Branch):
            mark = Branch.MARKS[4 * phrase.together + 2 * phrase.keep_left + phrase.keep_right]
        return f"({left} {mark} {right})"


def signable(seed, count, events=9):
    """Phrases that fit and are not bare, and whose full signing fits too."""
    found = []
    for phrase in fitting_phrases(seed, 60 * count, events):
        if len(found) < count and not bare(phrase) and few_copies(phrase):
            if depth(Ask(0, in_turn(phrase, phrase, phrase, phrase))) < 12 and sign_many(full_signing(FOUR, phrase)) <= 10:
                found.append(phrase)
    chance = seeded(seed)
    for _ in range(count // 2):
        # Words that go on from place to place.
        p, q, r = (chance.sample(range(4), 3))
        inner = Then(Look(2 * q, chance.randrange(8)), Ask(r, Look(2 * r + 1, chance.randrange(8))))
        found.append(Ask(p, Then(Look(2 * p, chance.randrange(8)), Ask(q, inner))))
    return found


def few_copies(phrase):
    """True if no look has more than a few copies."""
    return all(len(copies) <= 8 for copies in copies_of(phrase))


def nested(many, phrase):
    """The phrase with so many asks of place 0 round it."""
    for _ in range(many):
        phrase = Ask(0, phrase)
    return phrase


class Leavings(Case):

    def test_leavings(self):
        phrase = phrase_from("(@1((2>0 -> @0(!))) -> @3(@3(6>7)))")
        self.assertEqual(events_of(FOUR, phrase)[2], ("ask", 1, 0))
        self.assertEqual(leavings(FOUR, phrase), (2, 3, 4, 6, 8, 9))
        for phrase in fitting_phrases(210, 60):
            events = events_of(FOUR, phrase)
            right = [e for e, event in enumerate(events) if event[0] == "answer" or event[0] == "ask" and event[1] != -1]
            self.assertEqual(leavings(FOUR, phrase), tuple(right))

    def test_bare(self):
        told = [("!", True), ("0>1", False), ("@0(!)", True), ("@0(0>1)", False), ("(! -> 0>1)", False), ("(! -> !)", True),
                ("(0>1 +;+ !)", True), ("(0>1 +;+ (! -> 1>0))", False), ("(0>1 -> (! -~- !))", True),
                ("(0>1 -> @0(!))", True), ("@0(@0((! -> @1(2>3))))", False), ("@0(@1((! -> !)))", True)]
        for text, right in told:
            self.assertIs(bare(phrase_from(text)), right, text)
        for phrase in list(fitting_phrases(211, 200)) + list(mark_phrases())[::7]:
            self.assertIs(bare(phrase), is_bare(phrase))
        for value in NO_PHRASES:
            self.raises(BadPhrase, "phrase", bare, value)

    def test_without_signs(self):
        told = [("@0((! -> ((0>1 -> !) -> !)))", "@0(0>1)"), ("@0(((0>1 -> !) +~- (! -> 1>0)))", "@0((0>1 +~- 1>0))"),
                ("@0(((! -> !) -> (0>1 -> 1>0)))", "@0((0>1 -> 1>0))"), ("@0((0>1 -> @1((2>3 -> !))))", "@0((0>1 -> @1(2>3)))")]
        for text, right in told:
            self.assertEqual(phrase_text(without_signs(FOUR, phrase_from(text))), right)
        tried = 0
        for phrase in fitting_phrases(212, 300):
            if bare(phrase):
                self.raises(BadPhrase, "bare", without_signs, FOUR, phrase)
                continue
            tried += 1
            plain = without_signs(FOUR, phrase)
            self.assertEqual(phrase_text(plain), unsigned_text(phrase))
            self.assertEqual(without_signs(FOUR, plain), plain)
            # Phrases that differ in signs alone have the same events, order, copies and ways but for signs.
            self.assertEqual(events_of(FOUR, plain), events_of(FOUR, phrase))
            self.assertEqual(order_of(FOUR, plain), order_of(FOUR, phrase))
            for one, other in zip(all_ways(FOUR, plain), all_ways(FOUR, phrase)):
                self.assertEqual(one, tuple(tuple((e, p, ()) for e, p, _ in way) for way in other))
        self.assertGreater(tried, 60)


class SignedAt(Case):

    def test_signed(self):
        phrase = phrase_from("@0((0>1 -> @1((2>3 -> !))))")
        told = [((), "@0((0>1 -> @1(2>3)))"), ((5,), "@0(((0>1 -> @1(2>3)) -> !))"), ((2,), "@0((0>1 -> (! -> @1(2>3))))"),
                ([4, 2], "@0((0>1 -> (! -> @1((2>3 -> !)))))"), ([4], "@0((0>1 -> @1((2>3 -> !))))")]
        for spots, right in told:
            self.assertEqual(phrase_text(signed_at(FOUR, phrase, spots)), right)

    def test_drawn_spots(self):
        chance = seeded(213)
        for phrase in signable(214, 60):
            spots = [e for e in leavings(FOUR, phrase) if chance.random() < 0.5]
            chance.shuffle(spots)
            signed = signed_at(FOUR, phrase, spots)
            self.assertEqual(phrase_text(signed), Signer(spots).text(without_signs(FOUR, phrase)))
            self.assertEqual(without_signs(FOUR, signed), without_signs(FOUR, phrase))
            self.assertEqual(signed_at(FOUR, signed, spots), signed)
            self.assertEqual(sign_many(signed), len(spots))
            self.assertEqual(look_order(FOUR, signed), look_order(FOUR, phrase))
            self.assertEqual(full_signing(FOUR, phrase), signed_at(FOUR, phrase, leavings(FOUR, phrase)))

    def test_twelve_levels_and_thirteen(self):
        # Each ask that a place asks makes three levels when both of its leavings are signed.
        four = nested(4, Look(0, 1))
        self.assertEqual(depth(four), 5)
        self.assertEqual(depth(full_signing(FOUR, four)), 12)
        more = nested(4, Then(Look(0, 1), Look(1, 0)))
        spots = leavings(FOUR, more)
        self.assertEqual(spots, (1, 2, 3, 6, 7, 8, 9))
        self.raises(BadPhrase, "depth", full_signing, FOUR, more)
        self.raises(BadPhrase, "depth", signed_at, FOUR, more, spots)
        for spot in spots:
            self.assertEqual(depth(signed_at(FOUR, more, [e for e in spots if e != spot])), 12)
        five = nested(5, Look(0, 1))
        check_phrase(FOUR, five)
        self.raises(BadPhrase, "depth", full_signing, FOUR, five)
        self.raises(BadSet, "spots", signed_at, FOUR, five, list(leavings(FOUR, five)) + [0])

    def test_all_leavings_are_signed(self):
        # Four asks have seven leavings.
        phrase = Ask(0, in_turn(*[Ask(q % 4, Look(2 * (q % 4), 1)) for q in range(3)]))
        self.assertEqual(event_many(phrase), 11)
        self.assertEqual(sign_many(full_signing(FOUR, phrase)), 7)

    def test_errors_in_their_order(self):
        phrase = phrase_from("@0((0>1 -> @1((2>3 -> !))))")
        for value in NO_PHRASES + [Look(0, 1)]:
            word = "judge" if isinstance(value, Look) else "phrase"
            self.raises(BadPhrase, word, leavings, FOUR, value)
            self.raises(BadPhrase, word, without_signs, FOUR, value)
            self.raises(BadPhrase, word, signed_at, FOUR, value, None)
            self.raises(BadPhrase, word, full_signing, FOUR, value)
        for text in ["@0(!)", "@0((0>1 +;+ !))", "@0((0>1 -> @1(!)))"]:
            self.raises(BadPhrase, "bare", without_signs, FOUR, phrase_from(text))
            self.raises(BadPhrase, "bare", signed_at, FOUR, phrase_from(text), None)
            self.raises(BadPhrase, "bare", full_signing, FOUR, phrase_from(text))
            self.assertTrue(leavings(FOUR, phrase_from(text)))
        for value in NO_LISTS + [[0], [1], [2, 2], [3], [6], [-1], [True], [None], [ODD], [2, 4, 5, 7]]:
            self.raises(BadSet, "spots", signed_at, FOUR, phrase, value)
        spots = [5, 2]
        signed_at(FOUR, phrase, spots)
        self.assertEqual(spots, [5, 2])


class WhatSignsKeep(Case):

    def copies(self, phrase):
        """The paths of all copies by look and number."""
        return [(look, k, path) for look, paths in enumerate(copies_of(phrase)) for k, path in enumerate(paths)]

    def changed(self, system, phrase, row, run):
        """The changeable copies, told by look and number."""
        return {(look, k) for look, k, path in self.copies(phrase) if changeable(system, phrase, row, run, path)}

    def test_more_spots_keep_more(self):
        chance = seeded(215)
        less = 0
        for phrase in signable(216, 40):
            system = some_four(chance)
            spots = leavings(FOUR, phrase)
            some = [e for e in spots if chance.random() < 0.6]
            fewer = [e for e in some if chance.random() < 0.5]
            phrases = [full_signing(FOUR, phrase), signed_at(FOUR, phrase, some), signed_at(FOUR, phrase, fewer),
                       without_signs(FOUR, phrase)]
            row = some_row(chance, system, phrase)
            for _ in range(12):
                run = some_form(chance, sorted(set(system.managers)), len(row), chance.choice([0.1, 0.2, 0.4]))
                found = [self.changed(system, one, row, run) for one in phrases + [phrase]]
                self.assertTrue(found[0] <= found[1] <= found[2] <= found[3])
                self.assertTrue(found[0] <= found[4] <= found[3])
                less += found[0] != found[3]
        self.assertGreater(less, 5)

    def test_rounds_of_full_signing(self):
        chance = seeded(217)
        for phrase in signable(218, 40):
            system = some_four(chance)
            full = full_signing(system, phrase)
            row = some_row(chance, system, full)
            run = some_form(chance, sorted(set(system.managers)), len(row), 0.4)
            for look, k, path in self.copies(full):
                way, left = all_ways(system, full)[look][k], left_before(system, full, path)
                changed = False
                for number, step in enumerate(way):
                    own = {step[1]} if number and step[1] != -1 else set()
                    self.assertEqual(set(round_of(step)), set(left[number]) | own)
                    i = row.index(step[0])
                    managed = is_bad_managed(system, full, row, run, i)
                    changed = changed or managed and all(is_out(system, run, place, i) for place in left[number])
                self.assertIs(changeable(system, full, row, run, path), changed)

    def test_managers_alone_and_the_place_of_the_look(self):
        chance = seeded(219)
        for phrase in signable(220, 40):
            system = some_four(chance)
            full = full_signing(system, phrase)
            row = some_row(chance, system, full)
            for q in range(4):
                parts = [manager for place, manager in enumerate(system.managers) if place != q]
                run = some_form(chance, parts, len(row), 0.8)
                for look, k, path in self.copies(full):
                    if all_ways(system, full)[look][k][0][1] == q:
                        self.assertIs(changeable(system, full, row, run, path), False)

    def test_a_sign_that_is_put_in(self):
        chance = seeded(221)
        tried = 0
        for phrase in fitting_phrases(222, 120, 8):
            other = put_in(chance, phrase, lambda place: Sign())
            if not fits(other) or not few_copies(phrase):
                continue
            tried += 1
            system = some_four(chance)
            row = some_row(chance, system, phrase)
            run = some_form(chance, sorted(set(system.managers)), len(row), 0.5)
            self.assertTrue(self.changed(system, other, row, run) <= self.changed(system, phrase, row, run))
        self.assertGreater(tried, 60)

    def test_a_look_that_is_put_in(self):
        chance = seeded(223)
        told = 0
        for phrase in fitting_phrases(224, 150, 8):
            marked = put_in(chance, phrase, lambda place: Look(2 * place, 7))
            if not fits(marked) or not few_copies(phrase):
                continue
            before, after = events_of(FOUR, phrase), events_of(FOUR, marked)
            new = min(k for k in range(len(after)) if k >= len(before) or after[k] != before[k])
            if after[:new] + after[new + 1:] != before or after.count(after[new]) > 1:
                continue
            system = some_four(chance)
            row = some_row(chance, system, marked)
            run = some_form(chance, range(8), len(row), 0.5)
            if unread(system, marked, row, run):
                told += 1
                i = row.index(new)
                shorter = [e - (e > new) for e in row if e != new]
                self.assertIs(unread(system, phrase, shorter, run.dropped([i])), True)
        self.assertGreater(told, 20)


def put_in(chance, phrase, made, place=-1):
    """The phrase with a new leaf put ahead of or behind one part of it that stands at a place."""
    parts = phrase.parts_of()
    if place != -1 and (not parts or chance.random() < 0.3):
        new = made(place)
        return Then(new, phrase) if chance.random() < 0.5 else Then(phrase, new)
    if not parts:
        return phrase
    if isinstance(phrase, Ask):
        return Ask(phrase.place, put_in(chance, phrase.asked, made, phrase.place))
    k = chance.randrange(2)
    changed = [put_in(chance, part, made, place) if at == k else part for at, part in enumerate(parts)]
    if isinstance(phrase, Then):
        return Then(*changed)
    return Branch(*changed, keep_left=phrase.keep_left, keep_right=phrase.keep_right, together=phrase.together)


if __name__ == "__main__":
    unittest.main()
