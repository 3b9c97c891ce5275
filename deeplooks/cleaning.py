"""Least clean sets behind each beginning of the looks of a phrase, under a foe with nothing stuck.

Beginnings and sets of parts are told by masks. A step is a tuple of the mask of what a look's measurer
needs, the mask of its target, and the masks of the premises of which each must have a clean part.
"""

from deeplooks.checks import looks_of
from deeplooks.masks import FoeMasks, least_masks, mask_of


class Cleaning:
    """The looks of a phrase in their order; walk has each beginning and the looks ready behind it."""

    def __init__(self, system, phrase, walk):
        looks = looks_of(phrase)
        self.walk = walk
        self.all_looks = (1 << len(looks)) - 1
        self._needs = [mask_of(system.needs[look.measurer]) for look in looks]
        self._targets = [look.target for look in looks]

    def clean_sets(self, foe):
        """A dict: for each beginning a list of the least clean sets behind it."""
        steps = self.steps_under(foe)
        found = {beginning: [] for beginning, _ in self.walk}
        found[0] = [self.clean_from(foe)]
        # Larger sets stay larger at each step, so only the least of each beginning have to go on.
        for beginning, ready in self.walk:
            found[beginning] = least_masks(found[beginning])
            for number in ready:
                behind = [stepped(clean, steps[number]) for clean in found[beginning]]
                found[beginning | 1 << number].extend(behind)
        return found

    def clean_from(self, foe):
        """The parts that are clean ahead of all looks."""
        masks = FoeMasks(foe)
        return masks.all_parts & ~masks.grown(masks.early_mask, 0)

    def steps_under(self, foe):
        """A list of the step of each look."""
        return [step_under(foe, need, target) for need, target in zip(self._needs, self._targets)]

    def is_shut(self, found, aim):
        """True if in no clean set of those that were found the aim is reached."""
        target, number = aim
        if number is None:
            return all([clean >> target & 1 for clean in found[self.all_looks]])
        need = self._needs[number]
        for beginning, ready in self.walk:
            if number in ready and not all([clean >> target & 1 or clean & need == need for clean in found[beginning]]):
                return False
        return True


def step_under(foe, need, target):
    """The step of a look at the target, whose measurer needs the mask need."""
    premises = [mask_of(premise) for premise, part in foe.rules if part == target and part not in premise]
    return (need, 1 << target, premises)


def stepped(clean, step):
    """The clean set behind the look, if this one is clean ahead of it."""
    need, target, premises = step
    if clean & need == need and all([clean & premise for premise in premises]):
        return clean | target
    return clean
