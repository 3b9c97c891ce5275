"""Runs on lines by listing them: unheard ones, those that keep bars, unions; small foes, systems and lines."""

from functools import reduce
from itertools import product

from deeplooks.foes import Foe
from deeplooks.runs import Run
from deeplooks.systems import System
from tests.helpers import all_subsets
from tests.slowruns import all_forms


def run_of(form):
    """The form as a Run."""
    moments, states = form
    return Run([sorted(held) for held in moments], [sorted(held) for held in states])


def union(forms, length):
    """The union of the forms, set by set, as a form; all sets empty if there is none."""
    empty = ((frozenset(),) * (length + 1), (frozenset(),) * length)
    return reduce(lambda one, two: (tuple(a | b for a, b in zip(one[0], two[0])),
                                    tuple(a | b for a, b in zip(one[1], two[1]))), forms, empty)


def heard_at(system, line, states):
    """The positions of the honestly bad looks, straight from point 92."""
    found = []
    for i, look in enumerate(line):
        if look is not None:
            a, b = look
            if b in states[i] and not any(part in states[i] for part in system.needs[a]):
                found.append(i)
    return found


def unheard_forms(system, line, forms):
    """The forms of the unheard runs."""
    return [form for form in forms if not heard_at(system, line, form[1])]


def keeping(forms, bars):
    """The forms of the runs that keep the bars."""
    return [form for form in forms if not any(part in form[1][i] for i, part in bars)]


def reached(form, aim):
    """True if the form reaches the aim."""
    target, i = aim
    return target in (form[0][-1] if i is None else form[1][i])


def small_foes():
    """All foes over two parts but those with rules that never do anything: 256."""
    rules = [((), 0), ((1,), 0), ((), 1), ((0,), 1)]
    for chosen in all_subsets(range(4)):
        for early in all_subsets(range(2)):
            for stuck in all_subsets(range(2)):
                yield Foe(2, early, [rules[k] for k in chosen], stuck=stuck)


def small_systems():
    """All systems of two parts at one place, but for the manager."""
    for first, second in product(([], [1]), ([], [0])):
        yield System(1, [0, 0], [first, second], [0])


def small_lines(length):
    """All lines of this length over two parts."""
    return product([None, (0, 0), (0, 1), (1, 0), (1, 1)], repeat=length)


def aims_of(line, many):
    """All aims on the line for the parts of a system."""
    found = [(part, None) for part in range(many)]
    return found + [(look[1], i) for i, look in enumerate(line) if look is not None]


class Forms:
    """The forms of a foe by length, listed once."""

    def __init__(self, foe):
        self.foe = foe
        self.held = {}

    def of(self, length):
        """All forms of this length."""
        if length not in self.held:
            self.held[length] = sorted(all_forms(self.foe, length), key=str)
        return self.held[length]


def some_line(chance, many, length, nothing=0.25):
    """A line of this length over so many parts."""
    line = []
    for _ in range(length):
        look = (chance.randrange(many), chance.randrange(many))
        line.append(None if chance.random() < nothing else chance.choice([look, list(look)]))
    return line


def one_place(chance, many):
    """A system of so many parts at one place."""
    needs = [[p for p in range(many) if chance.random() < 0.3] for _ in range(many)]
    return System(1, [0] * many, needs, [chance.randrange(many)])
