"""Small phrases, their look rows and their aims, gone through whole; lots and clean sets by the words."""

from itertools import product

from deeplooks.checks import event_many
from deeplooks.foes import Foe
from deeplooks.phrases import Ask, Branch, Look, Sign, Then, in_turn
from deeplooks.systems import System


def looks_of(phrase):
    """The pairs of the looks by number."""
    return [(leaf.measurer, leaf.target) for leaf in phrase.leaves() if isinstance(leaf, Look)]


def look_rows(phrase):
    """All look rows, ascending, straight from the phrase."""
    rows = row_sets(phrase, 0)
    return sorted(rows)


def row_sets(phrase, first):
    """The rows of the looks of a phrase whose first look has this number."""
    if isinstance(phrase, Look):
        return {(first,)}
    parts = phrase.parts_of()
    if not parts:
        return {()}
    if len(parts) == 1:
        return row_sets(parts[0], first)
    left = row_sets(parts[0], first)
    many = len(next(iter(left)))
    right = row_sets(parts[1], first + many)
    if isinstance(phrase, Branch) and phrase.together:
        return {row for one in left for other in right for row in mixed(one, other)}
    return {one + other for one in left for other in right}


def mixed(one, other):
    """All ways to mix two rows."""
    if not one or not other:
        return [one + other]
    return [one[:1] + row for row in mixed(one[1:], other)] + [other[:1] + row for row in mixed(one, other[1:])]


def aims_of_phrase(phrase, many):
    """All aims of the phrase."""
    looks = looks_of(phrase)
    return [(part, None) for part in range(many)] + [(look[1], number) for number, look in enumerate(looks)]


def on_row(aim, row):
    """The aim on the line of the row."""
    return (aim[0], None if aim[1] is None else row.index(aim[1]))


def line_of(phrase, row):
    """The line of the look row."""
    looks = looks_of(phrase)
    return tuple(looks[number] for number in row)


def some_looks(chance, many, most):
    """A phrase at place 0 of at most so many looks, with signs and asks of the place itself."""
    def made(count):
        if count == 1:
            look = Look(chance.randrange(many), chance.randrange(many))
            return chance.choice([look, look, Then(look, Sign()), Ask(0, look)])
        left = chance.randrange(1, count)
        one, other = made(left), made(count - left)
        if chance.random() < 0.3:
            return Then(one, other)
        return Branch(one, other, together=chance.random() < 0.6, keep_left=chance.random() < 0.7)
    while True:
        phrase = Ask(0, made(chance.randrange(1, most + 1)))
        if event_many(phrase) <= 12:
            return phrase


def small_phrases(many):
    """All phrases of one look and of two looks in turn and together, over so many parts."""
    looks = list(product(range(many), repeat=2))
    yield Ask(0, Sign())
    for one in looks:
        yield Ask(0, Look(*one))
    for one, other in product(looks, repeat=2):
        yield Ask(0, Branch(Look(*one), Look(*other), together=True))
        yield Ask(0, in_turn(Look(*one), Look(*other)))


def all_lots(many):
    """All lots, ascending."""
    return list(product(range(3), repeat=many))


def is_above(lot, other):
    """True if the lot is above the other one."""
    return all(a >= b for a, b in zip(lot, other))


def all_needs(many):
    """All systems of so many parts at one place, but for the manager."""
    choices = [[list(p for k, p in enumerate(others) if chosen >> k & 1) for chosen in range(1 << (many - 1))]
               for others in ([p for p in range(many) if p != a] for a in range(many))]
    for needs in product(*choices):
        yield System(1, [0] * many, list(needs), [0])


def free_foe(chance, many, most=5):
    """A foe with nothing stuck."""
    rules = [(chance.sample(range(many), chance.randrange(min(many, 2) + 1)), chance.randrange(many))
             for _ in range(chance.randrange(most + 1))]
    return Foe(many, [p for p in range(many) if chance.random() < 0.5], rules)
