"""Points 35 to 37: the text of a phrase and its reading."""

import unittest

from deeplooks.errors import BadText
from deeplooks.phrases import Ask, Branch, Look, Sign, Then
from deeplooks.phrasetexts import phrase_from, phrase_text
from tests.helpers import NO_TEXTS, Case, longest_beginning, near_texts, seeded, some_phrase

GRAMMAR = {
    "BLANKS": [(), (" ", "BLANKS")],
    "PHRASE": [("BLANKS", "BARE", "BLANKS")],
    "BARE": [("!",), ("01234567", ">", "01234567"), ("@", "0123", "(", "PHRASE", ")"),
             ("(", "PHRASE", "LINK", "PHRASE", ")")],
    "LINK": [("-", ">"), ("+-", ";~", "+-")],
}
SIGNS = "0789>!@() +-;~$a"


class Texts(Case):

    def test_each_kind(self):
        look, sign = Look(0, 7), Sign()
        told = [
            (look, "0>7"), (sign, "!"), (Ask(3, look), "@3(0>7)"), (Then(look, sign), "(0>7 -> !)"),
            (Branch(look, sign), "(0>7 +;+ !)"),
        ]
        for keep_left in (False, True):
            for keep_right in (False, True):
                for together in (False, True):
                    mark = Branch.MARKS[4 * together + 2 * keep_left + keep_right]
                    phrase = Branch(look, sign, keep_left=keep_left, keep_right=keep_right, together=together)
                    told.append((phrase, f"(0>7 {mark} !)"))
        for phrase, text in told:
            self.assertEqual(phrase_text(phrase), text)
            self.assertEqual(phrase_from(text), phrase)
        self.assertEqual(phrase_text(Branch(look, sign, keep_right=False, together=True)), "(0>7 +~- !)")

    def test_both_ways(self):
        chance = seeded(21)
        texts = {}
        for _ in range(300):
            phrase = some_phrase(chance, 6)
            text = phrase_text(phrase)
            self.assertEqual(phrase_from(text), phrase)
            self.assertEqual(phrase_text(phrase_from(text)), text)
            if text in texts:
                self.assertEqual(texts[text], phrase)
            texts[text] = phrase

    def test_blanks(self):
        self.assertEqual(phrase_from(" ( 0>1 -> ! ) "), phrase_from("(0>1->!)"))
        self.assertEqual(phrase_from("  @1(  !  )"), Ask(1, Sign()))
        for text, place in (("0 >1", 1), ("0> 1", 2), ("@1 (!)", 2), ("@ 1(!)", 1), ("(! - > !)", 4),
                            ("(! + ~+ !)", 4), ("(! +~ + !)", 5), ("\t!", 0), ("!\n", 1)):
            self.raises(BadText, place, phrase_from, text)

    def test_wrong_signs(self):
        told = [("", 0), ("   ", 3), ("((0>1))", 5), ("(!)", 2), ("(0>1 -> !", 9), ("(0>1 -> !) !", 11), ("8>1", 0),
                ("0>8", 2), ("0>11", 3), ("01>1", 1), ("@4(!)", 1), ("@1", 2), ("@1()", 3), ("(! -> ! -> !)", 8),
                ("(! ~ !)", 3), ("(! ->", 5), ("(! -- !)", 4), ("(! +> !)", 4), ("(! +;", 5), ("(! +;; !)", 5),
                ("$look", 0), ("()", 1), ("!)", 1), (")", 0), ("!!", 1), ("@0(!))", 5), ("0", 1), ("0>", 2)]
        for text, place in told:
            self.assertEqual(longest_beginning(text, GRAMMAR, "PHRASE"), (place, False), text)
            self.raises(BadText, place, phrase_from, text)

    def test_near_texts(self):
        chance = seeded(22)
        accepted = 0
        for _ in range(25):
            phrase = some_phrase(chance, 4)
            for text in near_texts(phrase_text(phrase), SIGNS):
                place, right = longest_beginning(text, GRAMMAR, "PHRASE")
                if right:
                    accepted += 1
                    read = phrase_text(phrase_from(text))
                    self.assertEqual(read.replace(" ", ""), text.replace(" ", ""))
                else:
                    self.raises(BadText, place, phrase_from, text)
        self.assertGreater(accepted, 100)

    def test_no_text(self):
        for value in NO_TEXTS:
            self.raises(BadText, 0, phrase_from, value)

    def test_sixty_brackets(self):
        text = "@0(" * 60 + "!" + ")" * 60
        self.assertEqual(phrase_text(phrase_from(text)), text)
        self.raises(BadText, len(text) - 1, phrase_from, text[:-1])
        text = "(" * 60 + "!" + " -> !)" * 60
        self.assertEqual(phrase_text(phrase_from(text)), text)


if __name__ == "__main__":
    unittest.main()
