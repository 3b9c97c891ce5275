"""The examples of the interface, as they stand there."""

import doctest
import unittest

from deeplooks.errors import BadText
from deeplooks.phrasetexts import phrase_from

EXAMPLES = {
    "sets": """
>>> from deeplooks.sets import meeting_sets
>>> meeting_sets([(0, 1), (1, 2)], (0, 1, 2))
[(1,), (0, 2)]
""",
    "systems": """
>>> from deeplooks.systems import System
>>> system = System.standing(2, [0, 0, 1], [[], [0], [1]], [0, 2])
>>> system.needs
((0,), (0, 1), (0, 1, 2))
""",
    "systemtexts": r"""
>>> from deeplooks.systems import System
>>> from deeplooks.systemtexts import system_text
>>> system_text(System(2, [0, 0, 1], [[], [0], [1]], [0, 2]))
'places 2\nhomes 0 0 1\nneeds 0 / 0 1 / 1 2\nmanagers 0 2'
""",
    "foes": r"""
>>> from deeplooks.foes import Foe, foe_text
>>> foe_text(Foe(3, [1], [([], 0), ((1, 0), 2)]) | Foe(3, [0, 1], [([0, 1], 2)], stuck=[2]))
'parts 3\nearly 0 1\nrules > 0 / 0 1 > 2\nstuck'
""",
    "runs": """
>>> from deeplooks.foes import Foe
>>> from deeplooks.runs import Run, misfit
>>> misfit(Foe(2, [0], [([0], 1)], stuck=[1]), Run([[0, 1], [0]], [[0]]))
(0, 'stuck')
""",
    "deeds": """
>>> from deeplooks.foes import Foe
>>> from deeplooks.deeds import played
>>> run = played(Foe(2, [0], [([0], 1)]), [0], [[("corrupt", 1), ("mend", 0)], []])
>>> (run.moments, run.states)
(((0, 1), (1,)), ((1,),))
""",
    "phrasetexts": """
>>> from deeplooks.phrasetexts import phrase_from, phrase_text
>>> phrase_text(phrase_from("@1( ((0>1->!) +~-@0(2>2) ) )"))
'@1(((0>1 -> !) +~- @0(2>2)))'
""",
    "names": """
>>> from deeplooks.names import named_from
>>> from deeplooks.phrasetexts import phrase_text
>>> phrase_text(named_from(["look = 0>1", "both = ($look +;+ $look)", "whole = @0(($both -> !))"]))
'@0(((0>1 +;+ 0>1) -> !))'
""",
    "checks": """
>>> from deeplooks.checks import stands_at
>>> from deeplooks.phrasetexts import phrase_from
>>> stands_at(phrase_from("(@1((0>1 -> @2(!))) -;- !)"))
(1, 2, -1)
""",
    "events": """
>>> from deeplooks.events import events_of
>>> from deeplooks.phrasetexts import phrase_from
>>> from deeplooks.systems import System
>>> events_of(System(1, [0, 0], [[], []], [0]), phrase_from("@0((0>1 +~+ 1>0))"))
(('ask', -1, 0), ('look', 0, 0, 1), ('look', 0, 1, 0), ('answer', 0, -1))
""",
    "rows": """
>>> from deeplooks.events import order_of
>>> from deeplooks.phrasetexts import phrase_from
>>> from deeplooks.rows import rows_of
>>> from deeplooks.systems import System
>>> list(rows_of(order_of(System(1, [0, 0], [[], []], [0]), phrase_from("@0((0>1 +~+ 1>0))"))))
[(0, 1, 2, 3), (0, 2, 1, 3)]
""",
    "exchanges": """
>>> from deeplooks.exchanges import exchanges
>>> from deeplooks.orders import Order
>>> exchanges(Order(3, [(0, 2)]), [1, 0, 2], (0, 2, 1))
(0, 1)
""",
    "series": """
>>> from deeplooks.orders import Order
>>> from deeplooks.series import n_of, pieces
>>> order = Order(5, [(4, 2), (1, 2), (1, 3)])
>>> [n_of(order), pieces(order, True)]
[(4, 1, 2, 3), [(0,), (1, 2, 3, 4)]]
""",
    "worth": """
>>> from deeplooks.evidencetexts import evidence_text
>>> from deeplooks.phrasetexts import phrase_from
>>> from deeplooks.systems import System
>>> from deeplooks.worth import clean_of
>>> system = System(2, [0, 0, 1, 1], [[], [], [], []], [0, 2])
>>> phrase = phrase_from("@0((0>1 -> @1((2>3 -> !))))")
>>> evidence_text(clean_of(system, phrase, 5))
'!0@1(1:2>3+(0:0>1+(#5)))'
""",
    "ways": """
>>> from deeplooks.phrasetexts import phrase_from
>>> from deeplooks.systems import System
>>> from deeplooks.ways import way_of
>>> system = System(2, [0, 0, 1, 1], [[], [], [], []], [0, 2])
>>> phrase = phrase_from("@0((0>1 -> @1((2>3 -> !))))")
>>> way_of(system, phrase, ("in", "in"))
((1, 0, ()), (2, 0, ()), (4, 1, ((0, 1),)), (5, 0, ((0, 1),)))
""",
    "judges": """
>>> from deeplooks.judges import judge_text
>>> from deeplooks.phrasetexts import phrase_from
>>> from deeplooks.systems import System
>>> system = System(2, [0, 0, 1, 1], [[], [], [], []], [0, 2])
>>> phrase = phrase_from("@0((0>1 -> @1((2>3 -> !))))")
>>> judge_text(system, phrase, 5, "!0@1(1:2>3-(0:0>1+(#4)))")
(('in',), 'word')
""",
    "machines": """
>>> from deeplooks.machines import Machine
>>> from deeplooks.phrasetexts import phrase_from
>>> from deeplooks.systems import System
>>> system = System(2, [0, 0, 1, 1], [[], [], [], []], [0, 2])
>>> machine = Machine(system, phrase_from("@0((0>1 -> @1((2>3 -> !))))"), 5)
>>> [machine.do(0, cut=3), machine.ready(), machine.do(0), machine.missing]
[False, (0,), True, 9]
""",
    "driving": r"""
>>> from deeplooks.driving import drive
>>> from deeplooks.phrasetexts import phrase_from
>>> from deeplooks.systems import System
>>> system = System(2, [0, 0, 1, 1], [[], [], [], []], [0, 2])
>>> phrase = phrase_from("@0((0>1 -> @1((2>3 -> !))))")
>>> drive(system, phrase, 5, (0, 1, 2, 3, 4, 5), [True, False]).log_of(1)
'begun 2 0:0>1+(#5)\nsaid 3 -\ndone 2 !0@1(1:2>3-(0:0>1+(#5)))\n'
""",
    "driving 2": """
>>> from deeplooks.driving import deeds_left
>>> from deeplooks.machines import Machine
>>> from deeplooks.phrasetexts import phrase_from
>>> from deeplooks.systems import System
>>> len(deeds_left(Machine(System(1, [0, 0], [[], []], [0]), phrase_from("@0(0>1)"), 0)))
7
""",
    "covers": """
>>> from deeplooks.systems import System
>>> from deeplooks.runs import Run
>>> from deeplooks.covers import first_heard
>>> system = System(1, [0, 0, 0], [[0], [1], [0, 2]], [0])
>>> run = Run([[0, 1]] * 4, [[0, 1], [0, 1], [0]])
>>> first_heard(system, [(2, 1), None, (1, 0)], run)
2
""",
    "barring": """
>>> from deeplooks.foes import Foe
>>> from deeplooks.barring import barred_run
>>> run = barred_run(Foe(2, [0, 1], [([1], 0)], stuck=[1]), 2, [(0, 1), (1, 0)])
>>> (run.moments, run.states)
(((0,), (0,), ()), ((0,), ()))
""",
    "sieves": """
>>> from deeplooks.systems import System
>>> from deeplooks.foes import Foe
>>> from deeplooks.covers import Hearing
>>> from deeplooks.sieves import goings
>>> system = System(1, [0, 0, 0], [[0], [1], [2]], [2])
>>> foe = Foe(3, [0, 1], [], stuck=[0])
>>> line = [(0, 1), (2, 0)]
>>> [run.states for run in goings(foe, line, Hearing(system, line))]
[((0, 1), (0, 1)), ((1,), (1,)), ((), ())]
""",
    "sieves 2": """
>>> from deeplooks.systems import System
>>> from deeplooks.foes import Foe
>>> from deeplooks.covers import Hearing
>>> from deeplooks.sieves import peel
>>> system = System(1, [0, 0, 0], [[0], [1], [2]], [2])
>>> foe = Foe(3, [0, 1], [], stuck=[0])
>>> line = [(0, 1), (2, 0)]
>>> peel(foe, line, Hearing(system, line), (1, None))
(1, 0)
""",
    "plays": """
>>> from deeplooks.systems import System
>>> from deeplooks.foes import Foe
>>> from deeplooks.plays import plays_of
>>> system = System(1, [0, 0, 0], [[0, 1], [1], [2]], [0])
>>> foe = Foe(3, [0, 1, 2], [])
>>> plays_of(system, foe, [(0, 2)], 2, 0)
[((0, 2),), ((1, 2),)]
""",
    "openness": """
>>> from deeplooks.systems import System
>>> from deeplooks.foes import Foe
>>> from deeplooks.phrasetexts import phrase_from
>>> from deeplooks.openness import open_way
>>> system = System(1, [0, 0, 0], [[0], [0, 1], [2]], [0])
>>> phrase = phrase_from("@0((0>1 +~+ 1>2))")
>>> row, run = open_way(system, Foe.of_lot([0, 1, 1]), phrase, (2, None))
>>> (row, run.states)
((1, 0), ((1, 2), (2,)))
""",
    "openness 2": """
>>> from deeplooks.systems import System
>>> from deeplooks.foes import Foe
>>> from deeplooks.phrasetexts import phrase_from
>>> from deeplooks.openness import peels_of
>>> system = System(1, [0, 0, 0], [[0], [0, 1], [2]], [0])
>>> phrase = phrase_from("@0((0>1 +;+ 1>2))")
>>> peels_of(system, Foe.of_lot([0, 1, 1]), phrase, (2, None))
(((0, 1), (0, 1)),)
""",
    "tables": """
>>> from deeplooks.systems import System
>>> from deeplooks.foes import Foe
>>> from deeplooks.phrasetexts import phrase_from
>>> from deeplooks.tables import table_of
>>> system = System(1, [0, 0, 0], [[0], [0, 1], [2]], [0])
>>> phrase = phrase_from("@0((0>1 +~+ 1>2))")
>>> table_of(system, Foe.of_lot([0, 1, 1]), phrase, (1, None))
[((), [(0,)]), ((0,), [(0, 1)]), ((1,), [(0,)]), ((0, 1), [(0, 1)])]
""",
    "lots": """
>>> from deeplooks.systems import System
>>> from deeplooks.phrasetexts import phrase_from
>>> from deeplooks.lots import least_open
>>> system = System(1, [0, 0, 0], [[0], [0, 1], [2]], [0])
>>> least_open(system, phrase_from("@0((0>1 +;+ 1>2))"), (2, None))
[(0, 0, 2), (0, 2, 1), (1, 0, 1)]
""",
    "prices": """
>>> from deeplooks.systems import System
>>> from deeplooks.foes import Foe
>>> from deeplooks.phrasetexts import phrase_from
>>> from deeplooks.prices import Prices, cheapest
>>> system = System(1, [0, 0, 0], [[0], [0, 1], [2]], [0])
>>> foe = Foe(3, [2], [([2], 1)], stuck=[])
>>> prices = Prices([0, 0, 5], [3], [0, 1, 1])
>>> cheapest(system, foe, phrase_from("@0((0>1 +;+ 1>2))"), (2, None), prices)
(8, (0, 1), (2,), ((), (('corrupt', 1),), ()))
""",
    "changing": """
>>> from deeplooks.changing import blocked
>>> from deeplooks.phrasetexts import phrase_from
>>> from deeplooks.runs import Run
>>> from deeplooks.systems import System
>>> system = System(2, [0, 0, 1, 1], [[], [], [], []], [0, 2])
>>> phrase = phrase_from("@0((0>1 -> @1((2>3 -> !))))")
>>> run = Run([[], [1], [1], [], [], [0], [0]], [[], [1], [], [], [], [0]])
>>> blocked(system, phrase, [0, 1, 2, 3, 4, 5], run, ["in", "in"])
((3, 0, 1),)
""",
    "sending": """
>>> from deeplooks.evidencetexts import evidence_text
>>> from deeplooks.phrasetexts import phrase_from
>>> from deeplooks.runs import Run
>>> from deeplooks.sending import recorded_by
>>> from deeplooks.systems import System
>>> system = System(2, [0, 0, 1, 1], [[], [], [], []], [0, 2])
>>> phrase = phrase_from("@0((0>1 -> @1((2>3 -> !))))")
>>> run = Run([[2], [1], [1], [], [], [0], [0]], [[], [1], [], [], [], [0]])
>>> records, last = recorded_by(system, phrase, 5, [0, 1, 2, 3, 4, 5], run)
>>> [records[1], evidence_text(records[4]), evidence_text(last)]
[False, '!0@1(1:2>3+(0:0>1-(#5)))', '!0@1(1:2>3+(0:0>1+(#5)))']
""",
    "readers": """
>>> from deeplooks.foes import Foe
>>> from deeplooks.openness import is_open
>>> from deeplooks.phrasetexts import phrase_from
>>> from deeplooks.readers import taken_way
>>> from deeplooks.systems import System
>>> system = System(1, [0, 0, 0], [[], [], []], [2])
>>> foe = Foe(3, [1, 2], [])
>>> phrase = phrase_from("@0((0>1 -> !))")
>>> row, run = taken_way(system, foe, phrase, (1, None))
>>> [row, run.states, is_open(system, foe, phrase, (1, None))]
[(0, 1, 2), ((1, 2), (1, 2), (1, 2)), False]
""",
    "leavings": """
>>> from deeplooks.leavings import full_signing
>>> from deeplooks.phrasetexts import phrase_from, phrase_text
>>> from deeplooks.systems import System
>>> system = System(2, [0, 0, 1, 1], [[], [], [], []], [0, 2])
>>> phrase_text(full_signing(system, phrase_from("@0((0>1 -> @1((2>3 -> !))))")))
'@0(((0>1 -> (! -> @1((2>3 -> !)))) -> !))'
""",
    "needed": """
>>> from deeplooks.needed import least_signings, wanted
>>> from deeplooks.phrasetexts import phrase_from
>>> from deeplooks.systems import System
>>> system = System(2, [0, 0, 1, 1], [[], [], [], []], [0, 2])
>>> phrase = phrase_from("(@0(0>1) -> @0(@1(2>3)))")
>>> [wanted(system, phrase), least_signings(system, phrase)]
[[(6,), (2, 4)], [(2, 6), (4, 6)]]
""",
    "changers": """
>>> from deeplooks.changers import changers
>>> from deeplooks.leavings import full_signing
>>> from deeplooks.phrasetexts import phrase_from
>>> from deeplooks.systems import System
>>> system = System(2, [0, 0, 1, 1], [[], [], [], []], [0, 2])
>>> phrase = phrase_from("@0((0>1 -> @1((2>3 -> !))))")
>>> [changers(system, phrase, 0), changers(system, full_signing(system, phrase), 0)]
[[(0,), (1,)], [(0,)]]
""",
    "selfkept": """
>>> from deeplooks.systems import System
>>> from deeplooks.selfkept import least_kept_lots
>>> least_kept_lots(System(1, [0, 0, 0], [[2], [], []], [0]), [(0, 1), (1, 2)], 1)
[(0, 1, 1), (0, 2, 0), (1, 1, 0)]
""",
    "feeding": """
>>> from deeplooks.systems import System
>>> from deeplooks.orders import Order
>>> from deeplooks.feeding import feeding_pairs, spoiler
>>> system = System(1, [0, 0, 0], [[], [], []], [0])
>>> looks = [(1, 2), (0, 1)]
>>> [feeding_pairs(system, looks), spoiler(system, looks, Order.of_row([0, 1]))]
[((1, 0),), (1, 0, (0, 1, 1))]
""",
    "shortest": """
>>> from deeplooks.systems import System
>>> from deeplooks.shortest import shortest_best
>>> system = System(1, [0, 0, 0, 0, 0, 0], [[5], [3], [4], [], [], []], [0])
>>> shortest_best(system, [(0, 3), (1, 4), (2, 5)])
((0, 3), (1, 4), (2, 5), (0, 3))
""",
    "freesystems": """
>>> from deeplooks.freesystems import free_foe, free_system
>>> row = [(0, 1), (2, 3), (0, 4), (1, 5)]
>>> free_system(6, row, 5).needs
((0,), (1, 3, 4), (1, 2), (0, 1, 2, 3, 4, 5), (0, 1, 2, 3, 4, 5), (0, 1, 2, 3, 4, 5))
""",
    "everywhere": """
>>> from deeplooks.everywhere import strong_by_rules, strong_everywhere
>>> [strong_everywhere(3, [(0, 2), (0, 1)], [(0, 1), (0, 2)], 2), strong_by_rules(3, [(0, 2), (0, 1)], [(0, 1), (0, 2)], 2)]
[True, False]
""",
    "alike": """
>>> from deeplooks.alike import shorten, spare
>>> row = [(0, 1), (0, 1), (1, 3)]
>>> [spare(4, row, 3), shorten(4, row, 3)]
[(0, 1), ((0, 1), (1, 3))]
""",
    "tours": """
>>> from deeplooks.foes import Foe
>>> from deeplooks.systems import System
>>> from deeplooks.tours import left_after
>>> system = System(1, [0, 0, 0], [[], [0], []], [2])
>>> left_after(system, Foe(3, [1, 2], []), [[(1, 2), (0, 1)]], 0, 2)
((1, 2), (2,), ())
""",
    "camps": """
>>> from deeplooks.camps import camp
>>> from deeplooks.foes import Foe
>>> from deeplooks.systems import System
>>> system = System(1, [0, 0, 0], [[], [], []], [0])
>>> camp(system, Foe(3, [0, 1, 2], [([2], 0)]), [[(0, 1), (1, 0)], [(1, 2)]], 1)
(0, 1, 2)
""",
    "registers": """
>>> from deeplooks.registers import register_of, rows_told
>>> rows_told(register_of([(0, 1), (2, 2)], [True, False]))
(((0, 1), (2, 2)), (True, False))
""",
    "starts": """
>>> from deeplooks.evidencetexts import evidence_text
>>> from deeplooks.phrasetexts import phrase_from
>>> from deeplooks.runs import Run
>>> from deeplooks.starts import Starts, sealed_evidence
>>> from deeplooks.systems import System
>>> system = System(2, [0, 0, 1], [[], [], []], [1, 2])
>>> starts = Starts(system, [[(0, 1)], []], [0])
>>> phrase = phrase_from("@1(@0((0>1 -> !)))")
>>> run = Run([[1], [1], [], [], [], [], []], [[1], [], [], [], [], []])
>>> evidence_text(sealed_evidence(starts, phrase, 5, [0, 1, 2, 3, 4], run))
'x0'
""",
    "blame": """
>>> from deeplooks.blame import must_ever
>>> from deeplooks.foes import Foe
>>> from deeplooks.systems import System
>>> system = System(1, [0, 0, 0], [[], [0], []], [2])
>>> foe = Foe(3, [1, 2], [])
>>> line = [(0, 1), (1, 2)]
>>> (must_ever(system, foe, line, [False, True], 1), must_ever(system, foe, line, [False, True], 2))
(True, False)
""",
    "guilt": """
>>> from deeplooks.guilt import story_lots
>>> from deeplooks.systems import System
>>> story_lots(System(1, [0, 0, 0], [[], [0], []], [2]), [(0, 1), (1, 2)], [False, True])
[(0, 1, 0), (1, 0, 0)]
""",
    "trials": r"""
>>> from deeplooks.desks import Desk
>>> from deeplooks.foes import Foe
>>> from deeplooks.phrasetexts import phrase_from
>>> from deeplooks.systems import System
>>> from deeplooks.trials import Trial
>>> system = System(1, [0, 0, 0], [[], [0], []], [2])
>>> desk = Desk(system, Foe.of_lot([0, 1, 1]), phrase_from("@0((0>1 -> 1>2))"), 7)
>>> trial = Trial(desk)
>>> inside = trial.begin()
>>> inside.put_out(2)
>>> within = desk.told[1]
>>> trial.finish()
>>> (within, desk.told[1], trial.ended)
('parts 3\nearly 1\nrules\nstuck', 'parts 3\nearly 1 2\nrules\nstuck', True)
""",
    "listings": """
>>> from deeplooks.desks import Desk
>>> from deeplooks.foes import Foe
>>> from deeplooks.listings import listing
>>> from deeplooks.phrasetexts import phrase_from
>>> from deeplooks.systems import System
>>> from deeplooks.trials import tried
>>> system = System(1, [0, 0, 0], [[], [0], []], [2])
>>> desk = Desk(system, Foe.of_lot([0, 1, 1]), phrase_from("@0((0>1 -> 1>2))"), 7)
>>> desk.want((2, None))
>>> (listing(desk)[1], tried(desk, [("add_rule", ([], 2))], listing)[1], listing(desk)[0])
('aim 2 at the end: shut, taken', 'aim 2 at the end: open, taken', 'parts 3, places 1, looks 2, asks 1')
""",
}


class Examples(unittest.TestCase):

    def test_examples(self):
        for name, text in EXAMPLES.items():
            with self.subTest(name):
                test = doctest.DocTestParser().get_doctest(text, {}, name, name, 0)
                told = []
                failed, tried = doctest.DocTestRunner(verbose=False).run(test, out=told.append)
                self.assertEqual(failed, 0, "".join(told))
                self.assertGreater(tried, 0)

    def test_example_that_raises(self):
        with self.assertRaises(BadText) as caught:
            phrase_from("((0>1))")
        self.assertEqual(caught.exception.place, 5)


if __name__ == "__main__":
    unittest.main()
