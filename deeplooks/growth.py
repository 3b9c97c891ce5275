"""What grows from bad parts by the rules of a foe."""

from deeplooks.sets import inside, joined, set_of


def grow(foe, start, barred=()):
    """The least set that holds start and is closed when the rules to barred parts are left out."""
    found = set_of(start, foe.many, "start")
    return joined(found, [part for _, part in grow_steps(foe, found, barred)])


def grow_steps(foe, start, barred=()):
    """Rules that lead, one after the other, from start to all that grows from it."""
    found = list(set_of(start, foe.many, "start"))
    stopped = set_of(barred, foe.many, "barred")
    rules = [rule for rule in foe.rules if rule[1] not in stopped]
    steps = []
    grown = True
    while grown:
        grown = False
        for premise, part in rules:
            if part not in found and inside(premise, found):
                found.append(part)
                steps.append((premise, part))
                grown = True
    return tuple(steps)


def is_closed(foe, parts, barred=()):
    """True if no rule leads from inside parts to a part that is neither in it nor barred."""
    held = set_of(parts, foe.many, "parts")
    stopped = set_of(barred, foe.many, "barred")
    for premise, part in foe.rules:
        if inside(premise, held) and part not in held and part not in stopped:
            return False
    return True


def wave(foe, start):
    """The set of start and of all to which a rule leads from it in one step."""
    found = set_of(start, foe.many, "start")
    return joined(found, [part for premise, part in foe.rules if inside(premise, found)])
