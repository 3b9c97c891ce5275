"""Point 38: named lines."""

import unittest

from deeplooks.errors import BadPhrase, BadText
from deeplooks.names import named_from, uses
from deeplooks.phrasetexts import phrase_from, phrase_text
from tests.helpers import NO_LISTS, NO_TEXTS, Case, longest_beginning, near_texts, seeded, some_phrase
from tests.test_phrasetexts import GRAMMAR, SIGNS

LETTER = "abcdefghijklmnopqrstuvwxyz"
LINES = dict(GRAMMAR)
LINES["NAME"] = [(LETTER,) * k for k in range(1, 13)]
LINES["BARE"] = GRAMMAR["BARE"] + [("$", "NAME")]
LINES["LINE"] = [("NAME", " ", "=", " ", "PHRASE")]


class Named(Case):

    def test_one_line(self):
        self.assertEqual(named_from(["a = 0>1"]), phrase_from("0>1"))
        self.assertEqual(named_from(("a =  ( 0>1->! ) ",)), phrase_from("(0>1 -> !)"))
        self.assertEqual(uses(["a = 0>1"]), {"a": []})

    def test_names_stand_for_phrases(self):
        lines = ["look = 0>1", "both = ($look +~+ $look)", "whole = @0(( $both -> ! ))"]
        self.assertEqual(phrase_text(named_from(lines)), "@0(((0>1 +~+ 0>1) -> !))")
        self.assertEqual(uses(lines), {"look": [], "both": ["look"], "whole": ["both"]})

    def test_lines_in_any_order(self):
        lines = ["whole = ($both->$sign)", "both = ($sign +;- $look)", "sign = !", "look = 2>3"]
        self.assertEqual(phrase_text(named_from(lines)), "2>3")
        self.assertEqual(phrase_text(named_from(lines[1:] + lines[:1])), "((! +;- 2>3) -> !)")
        self.assertEqual(uses(lines)["whole"], ["both", "sign"])

    def test_the_whole_line_may_be_a_name(self):
        self.assertEqual(phrase_text(named_from(["a = !", "b = $a", "c =   $b  "])), "!")

    def test_names_stand_in_the_order_in_which_each_is_first(self):
        lines = ["z = !", "a = !", "m = (($z -> $a) -> ($a -> $z))", "k = @1(($a +;+ ($z -> $m)))"]
        self.assertEqual(uses(lines), {"z": [], "a": [], "m": ["z", "a"], "k": ["a", "z", "m"]})

    def test_a_name_that_stands_often(self):
        lines = ["a = !"] + [f"a{LETTER[k]} = ($a{LETTER[k - 1] if k else ''} -> $a)" for k in range(10)]
        self.assertEqual(phrase_text(named_from(lines)).count("!"), 11)

    def test_replacing_the_texts_gives_the_same(self):
        chance = seeded(23)
        for _ in range(100):
            texts = {}
            lines = []
            for name in ("a", "bb", "ccc", "dddddddddddd"):
                text = phrase_text(some_phrase(chance, 4))
                if texts:
                    text = text.replace("!", "$" + chance.choice(sorted(texts)))
                lines.append(name + " = " + text)
                for held, other in texts.items():
                    text = text.replace("$" + held, other)
                texts[name] = text
            right = phrase_from(texts["dddddddddddd"])
            self.assertEqual(named_from(lines), right)

    def test_lengths_of_names(self):
        self.assertEqual(phrase_text(named_from(["abcdefghijkl = !", "z = $abcdefghijkl"])), "!")
        self.raises(BadText, (0, 12), named_from, ["abcdefghijklm = !"])
        self.raises(BadText, (1, 17), named_from, ["abcdefghijkl = !", "z = $abcdefghijklm"])
        self.raises(BadText, (0, 0), named_from, [" = !"])
        self.raises(BadText, (0, 5), named_from, ["a = $"])

    def test_no_lines(self):
        for value in NO_LISTS + [[], ()]:
            for call in (named_from, uses):
                self.raises(BadText, (0, 0), call, value)
        for value in NO_TEXTS:
            for call in (named_from, uses):
                self.raises(BadText, (1, 0), call, ["a = !", value, "b = "])

    def test_wrong_lines(self):
        told = [("", 0), ("a", 1), ("a=!", 1), ("a =!", 3), ("a  = !", 2), (" a = !", 0), ("A = !", 0), ("a1 = !", 1),
                ("a = ", 4), ("a = $b c", 7), ("a = $ b", 5), ("a = $B", 5), ("a = (!)", 6), ("a = ! = !", 6),
                ("a = 0>8", 6), ("a = $b$c", 6), ("a = ! ", None), ("$a = !", 0)]
        for line, place in told:
            found, right = longest_beginning(line, LINES, "LINE")
            self.assertEqual(None if right else found, place, line)
            if place is not None:
                for call in (named_from, uses):
                    self.raises(BadText, (2, place), call, ["a = $nobody", "a = $a", line, "x"])

    def test_near_lines(self):
        chance = seeded(24)
        accepted = 0
        for _ in range(12):
            line = "ab = " + phrase_text(some_phrase(chance, 3)).replace("!", "$c")
            for text in near_texts(line, SIGNS + "=c"):
                place, right = longest_beginning(text, LINES, "LINE")
                if right:
                    accepted += 1
                    # Names that no line tells are another error, which comes behind this one.
                    more = [text] + [name + " = !" for name in ("c", "cc", "ca", "ac") if not text.startswith(name + " ")]
                    try:
                        told = uses(more)
                    except BadPhrase as wrong:
                        self.assertEqual(wrong.name, "name")
                        continue
                    self.assertEqual(list(told)[0], text.split(" ")[0])
                else:
                    self.raises(BadText, (0, place), uses, [text])
                    self.raises(BadText, (0, place), named_from, [text, "x"])
        self.assertGreater(accepted, 50)

    def test_names_that_are_told_twice_or_by_none(self):
        for call in (named_from, uses):
            self.raises(BadPhrase, "name", call, ["a = !", "a = !"])
            self.raises(BadPhrase, "name", call, ["a = !", "a = 0>1", "b = !"])
            self.raises(BadPhrase, "name", call, ["a = $b"])
            self.raises(BadPhrase, "name", call, ["a = !", "b = $c", "d = !"])
            # This comes ahead of a ring.
            self.raises(BadPhrase, "name", call, ["a = $a", "b = $c"])
            self.raises(BadPhrase, "name", call, ["a = $a", "a = !"])

    def test_rings(self):
        rings = [["a = $a"], ["a = $b", "b = $a"], ["a = $b", "b = ($c -> $d)", "c = $a", "d = !"],
                 ["a = (! -> $a)", "b = !"], ["c = !", "a = $b", "b = @0($a)", "d = $c"]]
        for lines in rings:
            self.raises(BadPhrase, "ring", named_from, lines)
        self.assertEqual(uses(rings[0]), {"a": ["a"]})
        self.assertEqual(uses(rings[2]), {"a": ["b"], "b": ["c", "d"], "c": ["a"], "d": []})

    def test_changes_nothing_and_returns_new(self):
        lines = ["a = !", "b = $a"]
        told = uses(lines)
        told["b"].append("z")
        told.pop("a")
        named_from(lines)
        self.assertEqual(lines, ["a = !", "b = $a"])
        self.assertEqual(uses(lines), {"a": [], "b": ["a"]})

    def test_many_lines(self):
        lines = ["a = !"]
        for k in range(59):
            name = "b" * (k // 26 + 1) + LETTER[k % 26]
            lines.append(f"{name} = @0(${lines[-1].split(' ')[0]})")
        self.assertEqual(phrase_text(named_from(lines)), "@0(" * 59 + "!" + ")" * 59)


if __name__ == "__main__":
    unittest.main()
