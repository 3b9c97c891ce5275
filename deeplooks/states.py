"""States that a foe goes through: which looks are behind it, what is bad, whether the aim was reached.

A state is a tuple (looks done, bad parts, reached), the first two as masks. A move is a deed, or a look number.
"""

from heapq import heappop, heappush

from deeplooks.checks import looks_of
from deeplooks.masks import FoeMasks, mask_of, members_of


class States:
    """The states of a foe with prices, for a phrase and an aim; walk has the beginnings of its looks."""

    def __init__(self, system, foe, phrase, aim, prices, walk):
        masks = FoeMasks(foe)
        self.target, self.number = aim
        self._walk = walk
        self._ready = {beginning: ready for beginning, ready in walk}
        self._all_looks = (1 << len(looks_of(phrase))) - 1
        self._looks = [(1 << look.target, mask_of(system.needs[look.measurer])) for look in looks_of(phrase)]
        self._early = foe.early
        self._early_prices = prices.early
        self._rules = list(zip(masks.rule_masks, prices.rules))
        self._mends = [(1 << part, prices.mends[part], part) for part in range(foe.many) if part not in foe.stuck]
        self._all_bad = list(range(1 << foe.many))

    def all_states(self):
        """A list of all states."""
        reached = (False,) if self.number is None else (False, True)
        return [(done, bad, told) for done, _ in self._walk for bad in self._all_bad for told in reached]

    def starts(self):
        """A list of the states at the start, each with its price ahead."""
        found = [(0, 0)]
        for part in self._early:
            price = self._early_prices[part]
            found = found + [(paid + price, bad | 1 << part) for paid, bad in found]
        return [(paid, (0, bad, False)) for paid, bad in found]

    def is_goal(self, state):
        """True if all looks are done and the aim is reached."""
        done, bad, reached = state
        if done != self._all_looks:
            return False
        return reached if self.number is not None else bool(bad >> self.target & 1)

    def moves(self, state):
        """A list of the moves from the state, each as its price, the move and the state behind it."""
        done, bad, reached = state
        found = [(price, move, (done, after, reached)) for price, move, after in self._deeds(bad)]
        for number in self._ready[done]:
            target, needs = self._looks[number]
            # A target that is bad must not be told by a measurer that is grounded.
            if bad & target == 0 or bad & needs:
                now = reached or number == self.number and bool(bad & target)
                found.append((0, number, (done | 1 << number, bad, now)))
        return found

    def _deeds(self, bad):
        """A list of the deeds that are allowed, each as its price, the deed and the bad parts behind it."""
        least = {}
        for (premise, led), price in self._rules:
            if bad & led == 0 and premise & bad == premise:
                least[led] = min(price, least.get(led, price))
        found = [(price, ("corrupt", members_of(led)[0]), bad | led) for led, price in least.items()]
        return found + [(price, ("mend", part), bad & ~bit) for bit, price, part in self._mends if bad & bit]


def best_ways(states):
    """A dict: for each state that can be come to its least price, the state ahead and the move from there.

    Of ways of one price those with the fewest moves are kept, so that no deed is done and undone in a gap.
    """
    found = {}
    told = []
    queue = []
    for price, state in states.starts():
        heappush(queue, (price, 0, len(told)))
        told.append((state, None, None))
    while queue:
        price, many, at = heappop(queue)
        state, before, move = told[at]
        if state in found:
            continue
        found[state] = (price, before, move)
        for cost, further, after in states.moves(state):
            if after not in found:
                heappush(queue, (price + cost, many + 1, len(told)))
                told.append((after, state, further))
    return found


def moves_to(found, goal):
    """The bad parts of the start as a mask, and a list of the moves that lead from there to the goal."""
    state = goal
    moves = []
    while found[state][1] is not None:
        moves.append(found[state][2])
        state = found[state][1]
    return (state[1], moves[::-1])
