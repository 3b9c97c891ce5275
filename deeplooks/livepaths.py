"""Live paths: rows of targets that a row of looks must hold to be best."""

from deeplooks.lookrows import clean_masks, looks_once, needs_masks, row_among
from deeplooks.sets import check_number
from deeplooks.sure import check_lot


def live_paths(system, looks):
    """A list of all live paths, shorter ones first, those of one length ascending."""
    needs = {target: system.needs[measurer] for measurer, target in looks_once(system, looks)}
    parts = sorted(list(needs))
    found = []
    layer = [(part,) for part in parts if part not in needs[part]]
    while layer:
        found = found + layer
        layer = [(*path, part) for path in layer for part in parts if _goes_on(needs, path, part)]
    return found


def path_when(row, path):
    """The position at which the row holds the path, None if it does not hold it."""
    held = 0
    for i, (_, target) in enumerate(row):
        if target == path[held]:
            held = held + 1
            if held == len(path):
                return i
    return None


def holds_path(row, path):
    """True if looks at the parts of the path stand in the row in this order."""
    return path_when(row, path) is not None


def lacking_path(system, looks, row):
    """The first live path that the row does not hold, None if it holds all."""
    held = row_among(looks_once(system, looks), row)
    for path in live_paths(system, looks):
        if not holds_path(held, path):
            return path
    return None


def is_best_row(system, looks, row):
    """True if the row of looks is best."""
    return lacking_path(system, looks, row) is None


def clean_when(system, looks, levels, row, part):
    """The position behind whose look the part becomes clean, -1 if it is so from the start, None if never."""
    held = looks_once(system, looks)
    check_lot(system, levels)
    told = row_among(held, row)
    check_number(part, 0, system.many - 1, "part")
    for i, clean in enumerate(clean_masks(needs_masks(system), levels, told)):
        if clean >> part & 1:
            return i - 1
    return None


def _goes_on(needs, path, part):
    """True if the part can stand behind the path; needs has for each target what its look's measurer needs."""
    # What stands in the path is needed by what follows it there, so it cannot lead on from it.
    if path[-1] not in needs[part] or part in needs[part]:
        return False
    return not any([part in needs[earlier] for earlier in path])
