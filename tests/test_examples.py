"""The examples of the interface, as they stand there."""

import doctest
import unittest

from deeplooks.errors import BadText
from deeplooks.phrasetexts import phrase_from

EXAMPLES = {
    "sets": """
>>> from deeplooks.sets import meeting_sets
>>> meeting_sets([(0, 1), (1, 2)], (0, 1, 2))
[(1,), (0, 2)]
""",
    "systems": """
>>> from deeplooks.systems import System
>>> system = System.standing(2, [0, 0, 1], [[], [0], [1]], [0, 2])
>>> system.needs
((0,), (0, 1), (0, 1, 2))
""",
    "systemtexts": r"""
>>> from deeplooks.systems import System
>>> from deeplooks.systemtexts import system_text
>>> system_text(System(2, [0, 0, 1], [[], [0], [1]], [0, 2]))
'places 2\nhomes 0 0 1\nneeds 0 / 0 1 / 1 2\nmanagers 0 2'
""",
    "foes": r"""
>>> from deeplooks.foes import Foe, foe_text
>>> foe_text(Foe(3, [1], [([], 0), ((1, 0), 2)]) | Foe(3, [0, 1], [([0, 1], 2)], stuck=[2]))
'parts 3\nearly 0 1\nrules > 0 / 0 1 > 2\nstuck'
""",
    "runs": """
>>> from deeplooks.foes import Foe
>>> from deeplooks.runs import Run, misfit
>>> misfit(Foe(2, [0], [([0], 1)], stuck=[1]), Run([[0, 1], [0]], [[0]]))
(0, 'stuck')
""",
    "deeds": """
>>> from deeplooks.foes import Foe
>>> from deeplooks.deeds import played
>>> run = played(Foe(2, [0], [([0], 1)]), [0], [[("corrupt", 1), ("mend", 0)], []])
>>> (run.moments, run.states)
(((0, 1), (1,)), ((1,),))
""",
    "phrasetexts": """
>>> from deeplooks.phrasetexts import phrase_from, phrase_text
>>> phrase_text(phrase_from("@1( ((0>1->!) +~-@0(2>2) ) )"))
'@1(((0>1 -> !) +~- @0(2>2)))'
""",
    "names": """
>>> from deeplooks.names import named_from
>>> from deeplooks.phrasetexts import phrase_text
>>> phrase_text(named_from(["look = 0>1", "both = ($look +;+ $look)", "whole = @0(($both -> !))"]))
'@0(((0>1 +;+ 0>1) -> !))'
""",
    "checks": """
>>> from deeplooks.checks import stands_at
>>> from deeplooks.phrasetexts import phrase_from
>>> stands_at(phrase_from("(@1((0>1 -> @2(!))) -;- !)"))
(1, 2, -1)
""",
    "events": """
>>> from deeplooks.events import events_of
>>> from deeplooks.phrasetexts import phrase_from
>>> from deeplooks.systems import System
>>> events_of(System(1, [0, 0], [[], []], [0]), phrase_from("@0((0>1 +~+ 1>0))"))
(('ask', -1, 0), ('look', 0, 0, 1), ('look', 0, 1, 0), ('answer', 0, -1))
""",
    "rows": """
>>> from deeplooks.events import order_of
>>> from deeplooks.phrasetexts import phrase_from
>>> from deeplooks.rows import rows_of
>>> from deeplooks.systems import System
>>> list(rows_of(order_of(System(1, [0, 0], [[], []], [0]), phrase_from("@0((0>1 +~+ 1>0))"))))
[(0, 1, 2, 3), (0, 2, 1, 3)]
""",
    "exchanges": """
>>> from deeplooks.exchanges import exchanges
>>> from deeplooks.orders import Order
>>> exchanges(Order(3, [(0, 2)]), [1, 0, 2], (0, 2, 1))
(0, 1)
""",
    "series": """
>>> from deeplooks.orders import Order
>>> from deeplooks.series import n_of, pieces
>>> order = Order(5, [(4, 2), (1, 2), (1, 3)])
>>> [n_of(order), pieces(order, True)]
[(4, 1, 2, 3), [(0,), (1, 2, 3, 4)]]
""",
    "worth": """
>>> from deeplooks.evidencetexts import evidence_text
>>> from deeplooks.phrasetexts import phrase_from
>>> from deeplooks.systems import System
>>> from deeplooks.worth import clean_of
>>> system = System(2, [0, 0, 1, 1], [[], [], [], []], [0, 2])
>>> phrase = phrase_from("@0((0>1 -> @1((2>3 -> !))))")
>>> evidence_text(clean_of(system, phrase, 5))
'!0@1(1:2>3+(0:0>1+(#5)))'
""",
    "ways": """
>>> from deeplooks.phrasetexts import phrase_from
>>> from deeplooks.systems import System
>>> from deeplooks.ways import way_of
>>> system = System(2, [0, 0, 1, 1], [[], [], [], []], [0, 2])
>>> phrase = phrase_from("@0((0>1 -> @1((2>3 -> !))))")
>>> way_of(system, phrase, ("in", "in"))
((1, 0, ()), (2, 0, ()), (4, 1, ((0, 1),)), (5, 0, ((0, 1),)))
""",
}


class Examples(unittest.TestCase):

    def test_examples(self):
        for name, text in EXAMPLES.items():
            with self.subTest(name):
                test = doctest.DocTestParser().get_doctest(text, {}, name, name, 0)
                told = []
                failed, tried = doctest.DocTestRunner(verbose=False).run(test, out=told.append)
                self.assertEqual(failed, 0, "".join(told))
                self.assertGreater(tried, 0)

    def test_example_that_raises(self):
        with self.assertRaises(BadText) as caught:
            phrase_from("((0>1))")
        self.assertEqual(caught.exception.place, 5)


if __name__ == "__main__":
    unittest.main()
