"""Sets of small integers as masks, and what grows by the rules of a foe, told so."""

MOST_BITS = 16


def mask_of(members):
    """The mask of the set."""
    mask = 0
    for member in members:
        mask = mask | 1 << member
    return mask


def members_of(mask):
    """The set of the mask."""
    return tuple([member for member in range(MOST_BITS) if mask >> member & 1])


def least_masks(masks):
    """A list of the different masks inside which no other one of them is."""
    different = list({mask: True for mask in masks})
    return [mask for mask in different if not any([_is_smaller(other, mask) for other in different])]


def _is_smaller(one, other):
    """True if the one mask is inside the other one and they differ."""
    return one != other and one & other == one


class FoeMasks:
    """A foe, its sets and rules told by masks."""

    def __init__(self, foe):
        self.all_parts = (1 << foe.many) - 1
        self.early_mask = mask_of(foe.early)
        self.stuck_mask = mask_of(foe.stuck)
        self.rule_masks = [(mask_of(premise), 1 << part) for premise, part in foe.rules]

    def grown(self, bad, barred):
        """What grows from the bad parts if no rule leads to a barred one."""
        found = bad
        while True:
            more = found
            for premise, part in self.rule_masks:
                if premise & more == premise:
                    more = more | part & ~barred
            if more == found:
                return found
            found = more

    def barred_sets(self, barred):
        """The moments and the states of the barred run, two lists; barred tells the bars of each position."""
        stopped = self._held(barred)
        bad = self.early_mask & ~stopped[0]
        moments = []
        states = []
        for place, bars in enumerate(barred):
            most = self.grown(bad, stopped[place])
            bad = most & ~bars
            moments.append(most)
            states.append(bad)
        return (moments + [self.grown(bad, 0)], states)

    def _held(self, barred):
        """A list: for each gap the stuck parts that have a bar at its position or a later one."""
        stopped = [0]
        for bars in reversed(barred):
            stopped.append(stopped[-1] | bars & self.stuck_mask)
        return stopped[::-1]
