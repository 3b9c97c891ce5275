"""Points 63 to 66 and 71: what a phrase writes, own and keeps, copies, lost looks, signs that hold a nonce."""

import unittest

from deeplooks.checks import stands_at
from deeplooks.errors import BadNumber, BadPhrase, BadSet
from deeplooks.evidence import Nonce, Said, at_path, put_at, words_in
from deeplooks.evidencetexts import evidence_text
from deeplooks.phrases import Ask, Branch, Look, Sign, Then, in_turn, look_many, sign_many
from deeplooks.phrasetexts import phrase_from
from deeplooks.ways import all_ways
from deeplooks.worth import clean_of, copies_of, evidence_of, keeps, lost_looks, sign_holds, size_of
from tests.fitting import fitting_phrases, mark_phrases
from tests.helpers import FOUR, NO_INTEGERS, NO_LISTS, ODD, Case, seeded, some_phrase
from tests.slowevidence import Writer, hands_in, text_of, words_of
from tests.test_phrases import NO_PHRASES


def many_phrases():
    """Phrases with every mark, asks within asks and signs, no look of which has more than 64 copies."""
    for phrase in list(fitting_phrases(47, 300)) + list(mark_phrases()):
        if all(len(copies) <= 64 for copies in copies_of(phrase)):
            yield phrase


class Writing(Case):

    def test_each_kind(self):
        told = [
            ("@0(0>1)", "0:0>1+(#7)"), ("@0(!)", "!0@0(#7)"), ("@0((0>1 -> !))", "!0@0(0:0>1+(#7))"),
            ("@0((0>1 +;+ !))", "[0:0>1+(#7),!0@0(#7)]"), ("@0((0>1 -~- !))", "[0:0>1+(_),!0@0(_)]"),
            ("@0((0>1 +~- !))", "[0:0>1+(#7),!0@0(_)]"), ("@0((0>1 -;+ !))", "[0:0>1+(_),!0@0(#7)]"),
            ("@0((0>1 -> (1>0 -;- !)))", "[1:1>0+(_),!0@0(_)]"),
            ("(@1(2>0) -> @0((! -> @3(!))))", "!1@3(!0@0(0:2>0+(#7)))"),
        ]
        for text, right in told:
            self.assertEqual(evidence_text(clean_of(FOUR, phrase_from(text), 7)), right)

    def test_words(self):
        phrase = phrase_from("@0((0>1 -> (1>0 +;+ 1>1)))")
        found = evidence_of(FOUR, phrase, 0, [False, "x", 0])
        self.assertEqual(evidence_text(found), "[1:1>0+(0:0>1-(#0)),2:1>1-(0:0>1-(#0))]")
        self.assertEqual(evidence_of(FOUR, phrase, 0, (1, 2, 3)), clean_of(FOUR, phrase, 0))

    def test_against_the_words_of_the_point(self):
        chance = seeded(48)
        for phrase in many_phrases():
            words = [chance.random() < 0.6 for _ in range(look_many(phrase))]
            piece = Writer(words).write(phrase, -1, ["nonce", 12])
            evidence = evidence_of(FOUR, phrase, 12, words)
            self.assertEqual(evidence_text(evidence), text_of(piece))
            told = tuple((path, look, good) for path, look, good, _ in words_of(piece))
            self.assertEqual(words_in(evidence), told)
            clean = clean_of(FOUR, phrase, 12)
            self.assertEqual(clean, evidence_of(FOUR, phrase, 12, [True] * len(words)))
            self.made_clean(evidence, clean, told)

    def made_clean(self, evidence, clean, told):
        """Putting good words in the place of the bad ones gives the clean evidence."""
        for path, _, good in told:
            if not good:
                said = at_path(evidence, path)
                better = Said(said.look, said.measurer, said.target, True, said.inner)
                evidence = put_at(evidence, path, better)
        self.assertEqual(evidence, clean)

    def test_one_phrase_object_at_several_places(self):
        look = Look(0, 1)
        both = Branch(look, look)
        phrase = Ask(0, Then(both, Branch(both, Sign(), keep_left=False)))
        right = "[[2:0>1+(_),3:0>1+(_)],!0@0([0:0>1+(#1),1:0>1+(#1)])]"
        self.assertEqual(evidence_text(clean_of(FOUR, phrase, 1)), right)
        self.assertEqual(len(copies_of(phrase)), 4)

    def test_errors_in_their_order(self):
        phrase = phrase_from("@0((0>1 -> !))")
        for value in (None, Sign(), Ask(1, Look(0, 0))):
            word = "phrase" if value is None else "judge" if isinstance(value, Sign) else "home"
            self.raises(BadPhrase, word, evidence_of, FOUR, value, True, None)
            self.raises(BadPhrase, word, clean_of, FOUR, value, True)
        for value in NO_INTEGERS + [-1, 1000000001]:
            self.raises(BadNumber, "nonce", evidence_of, FOUR, phrase, value, None)
            self.raises(BadNumber, "nonce", clean_of, FOUR, phrase, value)
        for value in NO_LISTS + [[], [True, True], ()]:
            self.raises(BadSet, "words", evidence_of, FOUR, phrase, 0, value)
        for nonce in (0, 1000000000):
            self.assertEqual(evidence_text(clean_of(FOUR, phrase, nonce)), f"!0@0(0:0>1+(#{nonce}))")

    def test_changes_nothing(self):
        words = [0, "bad", None]
        evidence = evidence_of(FOUR, phrase_from("@0((0>1 -> (1>0 +;+ 1>1)))"), 0, words)
        self.assertEqual(words, [0, "bad", None])
        words[0] = 1
        self.assertEqual([good for _, _, good in words_in(evidence)], [True, False, False, False])


class Sizes(Case):

    def test_each_kind(self):
        look, sign = Look(0, 1), Sign()
        told = [(look, (1, 1)), (sign, (1, 1)), (Ask(0, Ask(1, look)), (1, 1)), (Then(look, sign), (2, 1)),
                (Branch(look, sign), (3, 2)), (Branch(look, sign, keep_left=False), (4, 1)),
                (Branch(look, sign, keep_left=False, keep_right=False), (5, 0)),
                (Then(Branch(look, sign), Branch(look, sign)), (9, 4))]
        for phrase, size in told:
            self.assertEqual(size_of(phrase), size)
            self.assertEqual(keeps(phrase), size[1])

    def test_against_what_is_written(self):
        for phrase in many_phrases():
            own, kept = size_of(phrase)
            self.assertEqual((own, kept), hands_in(phrase))
            self.assertEqual(keeps(phrase), kept)
            clean = clean_of(FOUR, phrase, 3)
            self.assertEqual(clean.knots(), own + kept)
            # Larger evidence in hand comes in as often.
            self.assertEqual(evidence_text(clean).count("#3"), kept)

    def test_any_phrase(self):
        look = Look(0, 1)
        wide = Branch(look, look)
        phrase = in_turn(*[wide] * 50)
        self.assertEqual(keeps(phrase), 2 ** 50)
        own = 3
        for _ in range(49):
            own = 3 + 2 * own
        self.assertEqual(size_of(phrase), (own, 2 ** 50))
        self.assertEqual(lost_looks(phrase), ())
        none = Branch(look, Sign(), keep_left=False, keep_right=False)
        self.assertEqual(lost_looks(Then(phrase, none)), tuple(range(100)))
        self.assertFalse(sign_holds(Then(phrase, none), 0))
        self.assertTrue(sign_holds(Then(phrase, Sign()), 0))
        self.assertEqual(keeps(Then(phrase, none)), 0)


class Copies(Case):

    def test_copies(self):
        phrase = phrase_from("@0((0>1 -> ((1>0 +;+ !) -> (! +;+ 1>1))))")
        copies = copies_of(phrase)
        self.assertEqual(copies[2], (("right",),))
        self.assertEqual(copies[1], (("left", "in", "left"), ("right", "in", "left")))
        self.assertEqual(len(copies[0]), 4)
        self.assertEqual(copies_of(phrase_from("@0(!)")), ())

    def test_against_what_is_written(self):
        for phrase in many_phrases():
            copies = copies_of(phrase)
            self.assertIs(type(copies), tuple)
            self.assertEqual(len(copies), look_many(phrase))
            piece = Writer([True] * len(copies)).write(phrase, -1, ["nonce", 0])
            told = words_of(piece)
            for look, found in enumerate(copies):
                self.assertEqual(found, tuple(path for path, number, _, _ in told if number == look))
            lost = tuple(look for look, found in enumerate(copies) if not found)
            self.assertEqual(lost_looks(phrase), lost)
            self.assertEqual([len(found) for found in copies], factors(phrase))

    def test_lost_looks(self):
        phrase = phrase_from("@0((0>1 -> (1>0 -;- !)))")
        self.assertEqual(lost_looks(phrase), (0,))
        self.assertEqual(copies_of(phrase), ((), (("left",),)))
        self.assertEqual(lost_looks(phrase_from("@0(0>1)")), ())
        self.assertEqual(lost_looks(phrase_from("((0>1 -> 1>1) -> ((! -~- !) -> (! +;+ !)))")), (0, 1))

    def test_many_copies(self):
        phrase = in_turn(Look(0, 1), *[Branch(Sign(), Sign())] * 6)
        self.assertEqual(len(copies_of(in_turn(Look(0, 1), *[Branch(Sign(), Sign())] * 5))[0]), 32)
        self.assertEqual(keeps(phrase), 64)
        self.assertEqual(lost_looks(phrase), ())

    def test_sixty_four_copies_in_a_phrase_that_fits(self):
        doubles = [Branch(Sign(), Sign())] * 5 + [Branch(Look(1, 0), Look(1, 1), together=True)]
        phrase = Ask(0, in_turn(Look(0, 1), *doubles))
        copies = copies_of(phrase)
        self.assertEqual([len(found) for found in copies], [64, 1, 1])
        self.assertEqual(list(copies[0]), sorted(set(copies[0])))
        evidence = clean_of(FOUR, phrase, 1)
        self.assertEqual(tuple(path for path, look, _ in words_in(evidence) if look == 0), copies[0])
        ways = all_ways(FOUR, phrase)[0]
        self.assertEqual(len(ways), 64)
        self.assertEqual(len(set(ways)), 32)

    def test_leaves_at_the_judge(self):
        # copies_of takes phrases that fit no system, too.
        self.assertEqual(copies_of(phrase_from("(0>1 -> (! +;+ 7>7))")), ((("left", "in"), ("right", "in")), (("right",),)))

    def test_no_phrase(self):
        for value in NO_PHRASES:
            for call in (keeps, size_of, copies_of, lost_looks):
                self.raises(BadPhrase, "phrase", call, value)
            self.raises(BadPhrase, "phrase", sign_holds, value, None)


class SignsHold(Case):

    def test_against_what_is_written(self):
        for phrase in list(many_phrases()):
            writer = Writer([True] * look_many(phrase))
            writer.write(phrase, -1, ["nonce", 0])
            for sign in range(sign_many(phrase)):
                self.assertIs(sign_holds(phrase, sign), writer.held[sign])

    def test_the_piece_itself_need_not_come_into_the_evidence(self):
        phrase = phrase_from("@0((! -> (0>1 -;- !)))")
        self.assertNotIn("!0", evidence_text(clean_of(FOUR, phrase, 0)))
        self.assertIs(sign_holds(phrase, 0), True)
        self.assertIs(sign_holds(phrase, 1), False)

    def test_no_sign(self):
        phrase = phrase_from("@0((! -> !))")
        for value in NO_INTEGERS + [-1, 2, 99]:
            self.raises(BadNumber, "sign", sign_holds, phrase, value)
        self.raises(BadNumber, "sign", sign_holds, Look(0, 1), 0)


def factors(phrase, product=1):
    """The number of copies of each look by the product that point 65 tells."""
    if isinstance(phrase, Look):
        return [product]
    if isinstance(phrase, Then):
        return factors(phrase.first, product * hands_in(phrase.second)[1]) + factors(phrase.second, product)
    return [many for part in phrase.parts_of() for many in factors(part, product)]


class Unchanged(Case):

    def test_what_evidence_does_not_tell(self):
        for phrase in many_phrases():
            right = clean_of(FOUR, phrase, 9)
            self.assertEqual(clean_of(FOUR, turned(phrase), 9), right)

    def test_thens_put_together_otherwise(self):
        one, two = phrase_from("@0(((0>1 -> !) -> 1>0))"), phrase_from("@0((0>1 -> (! -> 1>0)))")
        self.assertEqual(clean_of(FOUR, one, 9), clean_of(FOUR, two, 9))

    def test_an_ask_round_what_stands_there(self):
        one, two = phrase_from("@0((0>1 -> !))"), phrase_from("@0(@0((0>1 -> @0(!))))")
        self.assertEqual(clean_of(FOUR, one, 9), clean_of(FOUR, two, 9))
        self.assertEqual(clean_of(FOUR, Ask(3, one), 9), clean_of(FOUR, one, 9))

    def test_equal_evidence_tells_equal_looks_and_signs(self):
        told = {}
        for phrase in many_phrases():
            text = evidence_text(clean_of(FOUR, phrase, 9))
            for other in told.setdefault(text, []):
                self.assertEqual(what_comes_in(phrase, text), what_comes_in(other, text))
            told[text].append(phrase)
        self.assertGreater(max(len(found) for found in told.values()), 1)

    def test_nonces_differ(self):
        phrase = phrase_from("@0((0>1 -> !))")
        self.assertNotEqual(clean_of(FOUR, phrase, 1), clean_of(FOUR, phrase, 2))
        without = phrase_from("@0((0>1 -;- !))")
        self.assertEqual(clean_of(FOUR, without, 1), clean_of(FOUR, without, 2))
        self.assertIsInstance(at_path(clean_of(FOUR, phrase, 1), ["in", "in"]), Nonce)


def what_comes_in(phrase, text):
    """The looks that are not lost and the signs in the text, with their numbers, parts and places."""
    looks = [leaf for leaf in phrase.leaves() if isinstance(leaf, Look)]
    kept = [(k, look.measurer, look.target) for k, look in enumerate(looks) if k not in lost_looks(phrase)]
    places = [place for leaf, place in zip(phrase.leaves(), stands_at(phrase)) if isinstance(leaf, Sign)]
    return kept, [(k, place) for k, place in enumerate(places) if f"!{k}@{place}(" in text]


def turned(phrase):
    """The phrase with in turn for together and the other way round."""
    if isinstance(phrase, Ask):
        return Ask(phrase.place, turned(phrase.asked))
    if not phrase.parts_of():
        return phrase
    left, right = [turned(part) for part in phrase.parts_of()]
    if isinstance(phrase, Then):
        return Then(left, right)
    return Branch(left, right, keep_left=phrase.keep_left, keep_right=phrase.keep_right, together=not phrase.together)


if __name__ == "__main__":
    unittest.main()
