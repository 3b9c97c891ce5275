"""Prices of a foe, cheapest runs, and heights that show that nothing is cheaper."""

from deeplooks.aims import check_aims
from deeplooks.deeds import played
from deeplooks.errors import BadPrices, TooMany
from deeplooks.events import look_order
from deeplooks.masks import members_of
from deeplooks.rows import walk_of
from deeplooks.sets import check_number, inside, is_int, is_list, is_number, joined, without
from deeplooks.states import States, best_ways, moves_to

MOST_PRICE = 1000000000
MOST_STATES = 2000


class Prices:
    """The prices of being bad at the start, of corrupting by each rule, and of mending."""

    def __init__(self, early, rules, mends):
        if not _are_prices(early):
            raise BadPrices("early")
        if not _are_prices(rules):
            raise BadPrices("rules")
        if not _are_prices(mends):
            raise BadPrices("mends")
        self.early = tuple(early)
        self.rules = tuple(rules)
        self.mends = tuple(mends)

    @classmethod
    def ones(cls, foe):
        """Prices that fit the foe, all 1."""
        return cls([1] * foe.many, [1] * len(foe.rules), [1] * foe.many)

    def fits(self, foe):
        """True if there is one price for each part and each rule of the foe."""
        return len(self.early) == foe.many and len(self.rules) == len(foe.rules) and len(self.mends) == foe.many


def price_of(foe, prices, start, gaps):
    """The price of the start and of the deeds of the gaps."""
    _check_prices(foe, prices)
    # This is asked for its errors alone.
    played(foe, start, gaps)
    bad = tuple(start)
    paid = sum([prices.early[part] for part in bad])
    for word, part in [deed for deeds in gaps for deed in deeds]:
        if word == "mend":
            paid = paid + prices.mends[part]
            bad = without(bad, (part,))
        else:
            paid = paid + _corruption_price(foe, prices, bad, part)
            bad = joined(bad, (part,))
    return paid


def cheapest(system, foe, phrase, aim, prices):
    """A cheapest run as a tuple (price, row, start, gaps); None if the phrase is shut."""
    states = _checked_states(system, foe, phrase, aim, prices)
    found = best_ways(states)
    goal = _cheapest_goal(states, found)
    if goal is None:
        return None
    start, moves = moves_to(found, goal)
    row = []
    gaps = [()]
    for move in moves:
        if is_int(move):
            row.append(move)
            gaps.append(())
        else:
            gaps[-1] = (*gaps[-1], move)
    return (found[goal][0], tuple(row), members_of(start), tuple(gaps))


def heights_of(system, foe, phrase, aim, prices):
    """A dict: for each state its height, for the cheapest price; None if the phrase is shut."""
    states = _checked_states(system, foe, phrase, aim, prices)
    found = best_ways(states)
    goal = _cheapest_goal(states, found)
    if goal is None:
        return None
    most = found[goal][0]
    heights = {}
    for state in states.all_states():
        price = found[state][0] if state in found else most
        heights[_told(state)] = min(price, most)
    return heights


def is_heights(system, foe, phrase, aim, prices, price, heights):
    """True if heights are heights for the price; a value of any kind may be asked for."""
    states = _checked_states(system, foe, phrase, aim, prices)
    check_number(price, 0, None, "price")
    if not isinstance(heights, dict):
        return False
    every = states.all_states()
    if not all([_told(state) in heights and is_int(heights[_told(state)]) for state in every]):
        return False
    height = {state: heights[_told(state)] for state in every}
    for paid, state in states.starts():
        if height[state] > paid:
            return False
    for state in every:
        if states.is_goal(state) and height[state] < price:
            return False
        if any([height[after] > height[state] + cost for cost, _, after in states.moves(state)]):
            return False
    return True


def fewest_deeds(system, foe, phrase, aim):
    """The price of a cheapest run if each part of the start and each deed costs 1; None if shut."""
    wanted = check_aims(system, foe, phrase, aim)
    found = cheapest(system, foe, phrase, wanted, Prices.ones(foe))
    return None if found is None else found[0]


def _are_prices(value):
    """True if value is a list or tuple of prices."""
    return is_list(value) and all([is_number(price, 0, MOST_PRICE) for price in value])


def _check_prices(foe, prices):
    """BadPrices if prices are none, or do not fit the foe."""
    if not isinstance(prices, Prices) or not prices.fits(foe):
        raise BadPrices("foe")


def _corruption_price(foe, prices, bad, part):
    """The least price of the rules by which the part can be corrupted when these are bad."""
    found = [prices.rules[k] for k, rule in enumerate(foe.rules) if rule[1] == part and inside(rule[0], bad)]
    return min(found)


def _checked_states(system, foe, phrase, aim, prices):
    """The states, if all arguments are right and there are no more of them than are gone through."""
    wanted = check_aims(system, foe, phrase, aim)
    _check_prices(foe, prices)
    walk = walk_of(look_order(system, phrase))
    if len(walk) << system.many > MOST_STATES:
        raise TooMany("states")
    return States(system, foe, phrase, wanted, prices, walk)


def _cheapest_goal(states, found):
    """The goal that was come to first, so at the least price; None if there is none."""
    for state in found:
        if states.is_goal(state):
            return state
    return None


def _told(state):
    """The state with its sets as tuples."""
    done, bad, reached = state
    return (members_of(done), members_of(bad), reached)
