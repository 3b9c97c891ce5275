"""Points 10 to 12: the text of a system and its reading."""

import re
import unittest

from deeplooks.errors import BadText
from deeplooks.systems import System
from deeplooks.systemtexts import system_from, system_text
from tests.helpers import NO_TEXTS, Case, near_texts, seeded, some_system

SIGNS = "01234578 /-\npx"


def set_in(text, many):
    """The set with this text, None if there is none; empty ones are none here."""
    if not re.fullmatch("[0-7]( [0-7])*", text):
        return None
    found = [int(word) for word in text.split(" ")]
    right = sorted(set(found)) == found and found[-1] < many
    return found if right else None


def wrong_line(text):
    """The first line of the text that is wrong by point 11, None if all are right."""
    lines = text.split("\n")
    if not re.fullmatch("places [1-4]", lines[0]):
        return 0
    places = int(lines[0][-1])
    if len(lines) < 2 or not re.fullmatch("homes [0-3]( [0-3]){0,7}", lines[1]):
        return 1
    homes = [int(word) for word in lines[1].split(" ")[1:]]
    if max(homes) >= places:
        return 1
    if len(lines) < 3 or not lines[2].startswith("needs "):
        return 2
    needs = [set_in(piece, len(homes)) for piece in lines[2][6:].split(" / ")]
    if len(needs) != len(homes) or None in needs or any(p not in need for p, need in enumerate(needs)):
        return 2
    if len(lines) < 4 or not re.fullmatch("managers [0-7]( [0-7]){0,3}", lines[3]):
        return 3
    managers = [int(word) for word in lines[3].split(" ")[1:]]
    if len(managers) != places or max(managers) >= len(homes):
        return 3
    if any(homes[part] != place for place, part in enumerate(managers)):
        return 3
    return 4 if len(lines) > 4 else None


class Texts(Case):

    def test_text(self):
        system = System(2, [1, 0], [[1], []], [1, 0])
        self.assertEqual(system_text(system), "places 2\nhomes 1 0\nneeds 0 1 / 1\nmanagers 1 0")

    def test_both_ways(self):
        chance = seeded(6)
        for _ in range(200):
            system = some_system(chance)
            text = system_text(system)
            self.assertEqual(system_from(text), system)
            self.assertEqual(system_text(system_from(text)), text)

    def test_near_texts(self):
        chance = seeded(7)
        accepted = 0
        systems = [System(1, [0], [[]], [0]), System(1, [0] * 8, [[]] * 7 + [[0, 3]], [7])]
        for system in systems + [some_system(chance) for _ in range(12)]:
            for text in near_texts(system_text(system), SIGNS):
                line = wrong_line(text)
                if line is None:
                    accepted += 1
                    self.assertEqual(system_text(system_from(text)), text)
                else:
                    self.raises(BadText, line, system_from, text)
        self.assertGreater(accepted, 50)

    def test_no_text(self):
        for value in NO_TEXTS:
            self.raises(BadText, 0, system_from, value)

    def test_wrong_lines(self):
        right = ["places 2", "homes 0 1 1", "needs 0 / 0 1 / 2", "managers 0 2"]
        system_from("\n".join(right))
        wrong = [
            ["places 0", "places 5", "places 02", "places  2", "places", "places 2 ", "Places 2", "", "2",
             "places +2", "places 1 2", "places 4000000000000000000000000000000000"],
            ["homes", "homes ", "homes 0 2 1", "homes 0 1 1 1 1 1 1 1 1", "homes 0  1 1", "homes 0 01 1",
             "home 0 1 1", " homes 0 1 1", "homes 0 1 1 "],
            ["needs 0 / 0 1", "needs 0 / 0 1 / 2 / 2", "needs 0 / 0 / 2", "needs 0 / 1 0 / 2", "needs 0 / 1 1 / 2",
             "needs 0 / 1 / 2 3", "needs 0/1/2", "needs  / 1 / 2", "needs 0 /  1 / 2", "needs 0 / 1 / 2 ",
             "needs 0 / 1 / ", "needs"],
            ["managers 0", "managers 1 0", "managers 0 0", "managers 0 3", "managers 0 1 2", "managers", "managers 0 2 "],
        ]
        for number, lines in enumerate(wrong):
            for line in lines:
                told = list(right)
                told[number] = line
                self.raises(BadText, number, system_from, "\n".join(told))
                # A fault in a line further down is not told.
                for later in range(number + 1, 4):
                    both = list(told)
                    both[later] = "x"
                    self.raises(BadText, number, system_from, "\n".join(both))
                self.raises(BadText, number, system_from, "\n".join(told + ["more"]))

    def test_lacking_and_further_lines(self):
        right = ["places 2", "homes 0 1 1", "needs 0 / 0 1 / 2", "managers 0 2"]
        for number in range(1, 4):
            self.raises(BadText, number, system_from, "\n".join(right[:number]))
            self.raises(BadText, number, system_from, "\n".join(right[:number]) + "\n")
        self.raises(BadText, 0, system_from, "")
        self.raises(BadText, 4, system_from, "\n".join(right) + "\n")
        self.raises(BadText, 4, system_from, "\n".join(right + ["", "more"]))
        # A place without a part is told in the line of the managers.
        self.raises(BadText, 3, system_from, "places 2\nhomes 0 0\nneeds 0 / 1\nmanagers 0 1")
        self.raises(BadText, 3, system_from, "places 2\nhomes 0 0\nneeds 0 / 1\nmanagers 0")


if __name__ == "__main__":
    unittest.main()
