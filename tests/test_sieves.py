"""Points 94 to 99: the sieve, its goings, peels, what grows with the foe, one pass, clean parts."""

import unittest
from itertools import permutations

from deeplooks.barring import barred_run, look_bars
from deeplooks.covers import Hearing, reaches
from deeplooks.deeds import played, run_deeds
from deeplooks.errors import BadFoe, BadSet
from deeplooks.foes import Foe
from deeplooks.runs import Run, is_run
from deeplooks.sieves import clean_rows, goings, is_peel, once, peel, sieve
from deeplooks.systems import System
from tests.helpers import NO_LISTS, ODD, Case, seeded, some_foe
from tests.slowsieve import (Forms, aims_of, heard_at, keeping, one_place, reached, run_of, small_foes, small_lines,
                             small_systems, some_line, unheard_forms, union)
from tests.test_barring import NO_BARS, some_bars
from tests.test_covers import BareAim


class SomeCover:
    """A cover that is none of the package: some parts bad at some moments cover a position."""

    def __init__(self, chance, length, many):
        self.wanted = [[(gap, part) for gap in range(i + 1) for part in range(many) if chance.random() < 0.15]
                       for i in range(length)]
        self.asked = []

    def __call__(self, run, i):
        self.asked.append(i)
        return any(part in run.moments[gap] for gap, part in self.wanted[i])


def caught(line, covered, run):
    """The positions of the caught looks."""
    return [i for i, look in enumerate(line) if look is not None and look[1] in run.states[i] and not covered(run, i)]


def taken_forms(line, covered, forms):
    """The forms of the runs without caught looks."""
    return [form for form in forms if not caught(line, covered, run_of(form))]


class Sieves(BareAim):

    def test_small_ones_whole(self):
        chance = seeded(106)
        for foe in small_foes():
            forms = Forms(foe)
            for system in small_systems():
                for length in (0, 1):
                    for line in small_lines(length):
                        self.check(system, foe, line, forms.of(length))
                for line in chance.sample(list(small_lines(2)), 4):
                    self.check(system, foe, line, forms.of(2))

    def check(self, system, foe, line, forms):
        """The sieve's run is the union of all unheard runs."""
        unheard = unheard_forms(system, line, forms)
        run = sieve(foe, line, Hearing(system, line))
        self.assertEqual(run, run_of(union(unheard, len(line))))
        self.assertFalse(heard_at(system, line, run.states))
        self.assertTrue(is_run(foe, run))

    def test_three_parts(self):
        chance = seeded(107)
        for _ in range(40):
            foe = some_foe(chance, 3, 5)
            forms = Forms(foe).of(2)
            for _ in range(6):
                self.check(one_place(chance, 3), foe, some_line(chance, 3, 2, 0.1), forms)

    def test_bars_and_other_covers(self):
        chance = seeded(108)
        for _ in range(30):
            foe = some_foe(chance, 3, 5)
            forms = Forms(foe).of(2)
            for _ in range(5):
                line = some_line(chance, 3, 2, 0.1)
                covered = chance.choice([SomeCover(chance, 2, 3), Hearing(one_place(chance, 3), line)])
                bars = some_bars(chance, 2, 3, 3)
                kept = taken_forms(line, covered, keeping(forms, bars))
                run = sieve(foe, line, covered, bars=[list(bar) for bar in bars])
                self.assertEqual(run, run_of(union(kept, 2)))
                self.assertEqual(caught(line, covered, run), [])

    def test_whichever_caught_looks_are_put_in_first(self):
        chance = seeded(109)
        for _ in range(250):
            many = chance.randrange(2, 6)
            foe, system = some_foe(chance, many, 8), one_place(chance, many)
            line = some_line(chance, many, chance.randrange(1, 9), 0.1)
            hearing = Hearing(system, line)
            right = sieve(foe, line, hearing)
            bars = []
            run = barred_run(foe, len(line), bars)
            while caught(line, hearing, run):
                found = caught(line, hearing, run)
                chosen = chance.sample(found, chance.randrange(1, len(found) + 1))
                bars += look_bars(line, chosen)
                run = barred_run(foe, len(line), bars)
            self.assertEqual(run, right)
            start, gaps = run_deeds(foe, run)
            self.assertEqual(played(foe, start, gaps), run)

    def test_goings(self):
        chance = seeded(110)
        longest = 0
        for _ in range(250):
            many = chance.randrange(2, 6)
            foe, system = some_foe(chance, many, 8), one_place(chance, many)
            line = some_line(chance, many, chance.randrange(9), 0.1)
            hearing = Hearing(system, line)
            found = goings(foe, line, hearing)
            self.assertIs(type(found), tuple)
            bars = []
            for k, run in enumerate(found):
                self.assertEqual(run, barred_run(foe, len(line), bars))
                more = look_bars(line, caught(line, hearing, run))
                self.assertEqual(more == (), k == len(found) - 1)
                bars += more
            self.assertEqual(found[-1], sieve(foe, line, hearing))
            looks = [look for look in line if look is not None and not system.void(look[0], look[1])]
            self.assertLessEqual(len(found), len(looks) + 1)
            longest = max(longest, len(found))
        self.assertGreater(longest, 2)

    def test_as_many_goings_as_there_can_be(self):
        # Each look is covered by a stuck part until the next look finds this part.
        system = System(1, [0] * 6, [[]] * 6, [0])
        foe = Foe(6, [0, 1, 2, 3, 4], [], stuck=[0, 1, 2, 3, 4])
        line = [(1, 0), (2, 1), (3, 2), (4, 3), (5, 4), (5, 5)]
        found = goings(foe, line, Hearing(system, line))
        self.assertEqual([run.moments[0] for run in found], [tuple(range(k)) for k in (5, 4, 3, 2, 1, 0)])
        self.assertEqual(peel(foe, line, Hearing(system, line), (0, None)), (4, 3, 2, 1, 0))

    def test_only_positions_of_looks_are_asked_for(self):
        chance = seeded(111)
        for _ in range(100):
            foe = some_foe(chance, 3, 6)
            line = some_line(chance, 3, 4, 0.5)
            covered = SomeCover(chance, 4, 3)
            sieve(foe, line, covered)
            goings(foe, line, covered)
            for aim in aims_of(line, 3):
                peel(foe, line, covered, aim)
                is_peel(foe, line, covered, aim, [0, 1, 2, 3])
            self.assertTrue(all(line[i] is not None for i in covered.asked))

    def test_lines_of_sixteen_places(self):
        foe = Foe(3, [0, 1, 2], [])
        system = System(1, [0, 0, 0], [[], [], []], [0])
        line = [(0, 1), (1, 2), (2, 0), None] * 4
        run = sieve(foe, line, Hearing(system, line))
        # What rests on itself in a ring is never seen.
        self.assertEqual(run.states[-1], (0, 1, 2))
        self.assertEqual(sieve(foe, [], Hearing(system, [])), Run([[0, 1, 2]], []))
        stopped = Foe(3, [1, 2], [])
        self.assertEqual(sieve(stopped, line, Hearing(system, line)).states[:3], ((2,), (), ()))

    def test_errors_in_their_order(self):
        foe = Foe(2, [0], [])
        hearing = Hearing(System(1, [0, 0], [[], []], [0]), [(0, 1)])
        for value in NO_LISTS + NO_BARS + [[(1, 0)]]:
            self.raises(BadSet, "bars", sieve, foe, [(0, 1)], hearing, bars=value)
        for value in NO_LISTS + [(0, 0), (1, 1), (2, 0), (True, 0)]:
            self.no_aim(peel, foe, [(0, 1)], hearing, value)
            self.no_aim(is_peel, foe, [(0, 1)], hearing, value, None)
        # An aim may tell a part that no system here has: it is never reached.
        self.assertEqual(peel(foe, [(0, 1)], hearing, (7, None)), ())

    def test_changes_nothing(self):
        foe = Foe(2, [0, 1], [])
        line, bars = [[0, 1]], [[0, 0]]
        hearing = Hearing(System(1, [0, 0], [[], []], [0]), line)
        sieve(foe, line, hearing, bars=bars)
        goings(foe, line, hearing)
        peel(foe, line, hearing, [1, None])
        self.assertEqual((line, bars), ([[0, 1]], [[0, 0]]))


class Grows(Case):

    def test_what_grows_with_the_foe(self):
        chance = seeded(112)
        for _ in range(150):
            many = chance.randrange(2, 6)
            one, two = some_foe(chance, many, 5), some_foe(chance, many, 5)
            system = one_place(chance, many)
            line = some_line(chance, many, chance.randrange(1, 7), 0.1)
            run = sieve(one, line, Hearing(system, line))
            self.assertTrue(run.under(sieve(one | two, line, Hearing(system, line))))
            needs = [list(need) + [chance.randrange(many)] for need in system.needs]
            larger = System(1, [0] * many, [list(set(need)) for need in needs], [0])
            self.assertTrue(run.under(sieve(one, line, Hearing(larger, line))))
            bare = [None if chance.random() < 0.4 else look for look in line]
            self.assertTrue(run.under(sieve(one, bare, Hearing(system, bare))))
            gone = [i for i in range(len(line)) if chance.random() < 0.4]
            shorter = [look for i, look in enumerate(line) if i not in gone]
            self.assertTrue(run.dropped(gone).under(sieve(one, shorter, Hearing(system, shorter))))


class Peels(BareAim):

    def by_the_words(self, foe, line, covered, aim, positions):
        """True if the positions are a peel, by point 97."""
        for k, i in enumerate(positions):
            if line[i] is None or covered(barred_run(foe, len(line), look_bars(line, positions[:k])), i):
                return False
        return not reaches(line, barred_run(foe, len(line), look_bars(line, positions)), aim)

    def test_all_rows_of_positions(self):
        chance = seeded(113)
        for _ in range(60):
            foe, system = some_foe(chance, 3, 5), one_place(chance, 3)
            line = some_line(chance, 3, 3, 0.15)
            covered = chance.choice([Hearing(system, line), SomeCover(chance, 3, 3)])
            for aim in aims_of(line, 3):
                some = False
                for many in range(4):
                    for positions in permutations(range(3), many):
                        right = self.by_the_words(foe, line, covered, aim, positions)
                        self.assertIs(is_peel(foe, line, covered, aim, chance.choice([list, tuple])(positions)), right)
                        some = some or right
                self.assertEqual(peel(foe, line, covered, aim) is not None, some)

    def test_peels_and_runs(self):
        chance = seeded(114)
        told = {True: 0, False: 0}
        for _ in range(40):
            foe, system = some_foe(chance, 3, 5), one_place(chance, 3)
            line = some_line(chance, 3, 2, 0.05)
            hearing = Hearing(system, line)
            forms = unheard_forms(system, line, Forms(foe).of(2))
            for aim in aims_of(line, 3):
                reaching = any(reached(form, aim) for form in forms)
                self.assertIs(reaches(line, sieve(foe, line, hearing), aim), reaching)
                self.assertEqual(peel(foe, line, hearing, aim) is None, reaching)
                told[reaching] += 1
        self.assertGreater(min(told.values()), 30)

    def test_the_peel_itself(self):
        chance = seeded(115)
        longest = 0
        for _ in range(300):
            many = chance.randrange(2, 6)
            foe, system = some_foe(chance, many, 8), one_place(chance, many)
            line = some_line(chance, many, chance.randrange(1, 8), 0.1)
            hearing = Hearing(system, line)
            for aim in aims_of(line, many):
                found, positions = peel(foe, line, hearing, aim), []
                run = barred_run(foe, len(line), [])
                while reaches(line, run, aim) and caught(line, hearing, run):
                    positions.append(caught(line, hearing, run)[0])
                    run = barred_run(foe, len(line), look_bars(line, positions))
                if reaches(line, run, aim):
                    self.assertIsNone(found)
                else:
                    self.assertEqual(found, tuple(positions))
                    self.assertTrue(is_peel(foe, line, hearing, aim, found))
                    longest = max(longest, len(found))
        self.assertGreater(longest, 2)

    def test_what_is_no_peel_of_any_kind(self):
        foe = Foe(2, [1], [])
        system = System(1, [0, 0], [[], []], [0])
        line = [(0, 1), None]
        hearing = Hearing(system, line)
        self.assertIs(is_peel(foe, line, hearing, (1, None), [0]), True)
        for value in NO_LISTS + [[], [1], [0, 1], [1, 0], [0, 0], [2], [-1], [False], ["0"], [None], [[0]], [ODD], [0.0]]:
            self.assertIs(is_peel(foe, line, hearing, (1, None), value), False)
        self.assertIs(is_peel(foe, line, hearing, (0, None), []), True)
        # A look that is not covered may stand in a peel though its target is good.
        self.assertIs(is_peel(foe, line, hearing, (0, None), [0]), True)


class Once(Case):

    def test_the_pass_is_the_sieve(self):
        chance = seeded(116)
        tried = 0
        for _ in range(600):
            many = chance.randrange(1, 6)
            foe, system = some_foe(chance, many, 8), one_place(chance, many)
            line = some_line(chance, many, chance.randrange(9), 0.2)
            if any(look is not None and look[1] in foe.stuck for look in line):
                self.raises(BadFoe, "stuck", once, system, foe, line)
                self.raises(BadFoe, "stuck", clean_rows, system, foe, line)
                continue
            tried += 1
            run = once(system, foe, line)
            self.assertEqual(run, sieve(foe, line, Hearing(system, line)))
            rows = clean_rows(system, foe, line)
            self.assertIs(type(rows), tuple)
            self.assertEqual(rows, tuple(tuple(p for p in range(many) if p not in held) for held in run.moments))
            self.check_steps(system, foe, line, run)
        self.assertGreater(tried, 200)

    def check_steps(self, system, foe, line, run):
        """From each gap to the next one by what point 99 says of clean parts."""
        for i, look in enumerate(line):
            before = set(run.moments[i])
            right = set(before)
            if look is not None and not before & set(system.needs[look[0]]):
                rules = [q for q, p in foe.rules if p == look[1] and look[1] not in q]
                if all(any(x not in before for x in q) for q in rules):
                    right.discard(look[1])
            self.assertEqual(set(run.moments[i + 1]), right)

    def test_exchanged_neighbours(self):
        chance = seeded(117)
        tried = 0
        while tried < 150:
            many = 5
            foe, system = some_foe(chance, many, 6), one_place(chance, many)
            foe = Foe(many, foe.early, foe.rules)
            line = some_line(chance, many, 6, 0)
            (a, b), (c, d) = line[2], line[3]
            rules = any(p == b and d in q or p == d and b in q for q, p in foe.rules)
            if b in system.needs[c] or d in system.needs[a] or rules:
                continue
            tried += 1
            other = line[:2] + [line[3], line[2]] + line[4:]
            self.assertEqual(clean_rows(system, foe, line)[4:], clean_rows(system, foe, other)[4:])

    def test_a_void_look_at_a_stuck_part(self):
        system = System(1, [0, 0], [[0, 1], []], [0])
        foe = Foe(2, [0], [], stuck=[1])
        for look in [(0, 1), (1, 1)]:
            self.raises(BadFoe, "stuck", once, system, foe, [None, look])
        self.assertEqual(once(system, foe, [(1, 0)]), Run([[0], []], [[]]))
        self.assertEqual(clean_rows(system, foe, ()), ((1,),))


if __name__ == "__main__":
    unittest.main()
