"""The listing of a desk, line by line."""

import unittest

from deeplooks.desks import Desk
from deeplooks.errors import TooMany
from deeplooks.foes import Foe
from deeplooks.listings import line_of, listing
from deeplooks.openness import is_open
from deeplooks.phrases import Ask, Look, ask_many, beside, look_many
from deeplooks.phrasetexts import phrase_from
from deeplooks.readers import taken_way
from deeplooks.systems import System
from tests.helpers import Case, seeded, some_foe
from tests.slowopen import aims_of_phrase
from tests.slowstarts import small_phrase, small_system
from tests.test_desks import some_desk


class Listings(Case):

    def test_lines_of_aims(self):
        self.assertEqual([line_of((3, 0)), line_of([0, 11]), line_of((7, None))],
                         ["3 at look 0", "0 at look 11", "7 at the end"])

    def test_drawn_desks(self):
        chance = seeded(530)
        seen = {}
        for _ in range(60):
            many = chance.randrange(2, 6)
            system = small_system(chance, many)
            foe, phrase = some_foe(chance, many, 5), small_phrase(chance, system, 7)
            desk = Desk(system, foe, phrase, 0)
            aims = aims_of_phrase(phrase, many)
            for aim in chance.sample(aims, chance.randrange(len(aims) + 1)):
                desk.want(aim)
            right = [f"parts {many}, places {system.places}, looks {look_many(phrase)}, asks {ask_many(phrase)}"]
            for aim in desk.aims():
                words = ("open" if is_open(system, foe, phrase, aim) else "shut",
                         "taken" if taken_way(system, foe, phrase, aim) is not None else "refused")
                seen[words] = True
                right.append(f"aim {line_of(aim)}: {words[0]}, {words[1]}")
            found = listing(desk)
            self.assertIs(type(found), list)
            self.assertEqual(found, right)
            found.clear()
            self.assertEqual(listing(desk), right)
        self.assertEqual(len(seen), 3)

    def test_no_wanted_aims_and_more_rows_than_are_gone_through(self):
        self.assertEqual(listing(some_desk()), ["parts 3, places 1, looks 2, asks 1"])
        system = System(1, [0] * 8, [[]] * 8, [0])
        desk = Desk(system, Foe(8, [], []), Ask(0, beside(*[Look(0, k) for k in range(1, 8)])), 0)
        self.assertEqual(listing(desk), ["parts 8, places 1, looks 7, asks 1"])
        desk.want((1, None))
        self.raises(TooMany, "rows", listing, desk)
        # 720 look rows can be gone through for the one word, and not for the other.
        desk = Desk(system, Foe(8, [], []), Ask(0, beside(*[Look(0, k) for k in range(1, 7)])), 0)
        desk.want((1, None))
        self.assertIs(desk.opens((1, None)), False)
        self.raises(TooMany, "rows", listing, desk)

    def test_an_aim_at_the_end_and_one_at_a_look(self):
        desk = Desk(System(1, [0, 0], [[], []], [0]), Foe(2, [1], [([], 1)]), phrase_from("@0(0>1)"), 0)
        desk.want((1, None))
        desk.want((1, 0))
        self.assertEqual(listing(desk)[1:], ["aim 1 at the end: open, taken", "aim 1 at look 0: shut, refused"])


if __name__ == "__main__":
    unittest.main()
