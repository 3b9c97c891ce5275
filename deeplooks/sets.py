"""Sets as ascending tuples of different integers, and the checks that arguments go through."""

from deeplooks.errors import BadNumber, BadSet, TooMany

MOST_MEMBERS = 10


def is_int(value):
    """True for an integer; True and False are none."""
    return isinstance(value, int) and not isinstance(value, bool)


def is_number(value, low, high):
    """True if value is an integer of low .. high; high None means no bound above."""
    return is_int(value) and value >= low and (high is None or value <= high)


def check_number(value, low, high, name):
    """The value, if it is an integer of low .. high, else BadNumber(name)."""
    if not is_number(value, low, high):
        raise BadNumber(name)
    return value


def is_list(value):
    """True for a list or tuple."""
    return isinstance(value, (list, tuple))


def is_set(value, many):
    """True if value is a list or tuple of different integers of 0 .. many - 1."""
    if not is_list(value):
        return False
    if not all([is_number(member, 0, many - 1) for member in value]):
        return False
    return len(set(value)) == len(value)


def set_of(value, many, name):
    """The set of the members of value, if it is one of integers below many, else BadSet(name)."""
    if not is_set(value, many):
        raise BadSet(name)
    return tuple(sorted(value))


def is_pair(value, many):
    """True if value is a list or tuple of two integers of 0 .. many - 1, equal ones too."""
    return is_list(value) and len(value) == 2 and all([is_number(part, 0, many - 1) for part in value])


def joined(one, other):
    """The set of what is in one of the two sets at least."""
    return tuple(sorted(set(one) | set(other)))


def common(one, other):
    """The set of what is in both sets."""
    return tuple([member for member in one if member in other])


def without(one, other):
    """The set of what is in the first set and not in the second one."""
    return tuple([member for member in one if member not in other])


def inside(one, other):
    """True if each member of the first set is in the second one."""
    for member in one:
        if member not in other:
            return False
    return True


def meets(one, other):
    """True if the two sets share a member."""
    for member in one:
        if member in other:
            return True
    return False


def short_first(sets):
    """A list of the different sets, sorted short first."""
    # Sorting is stable, so the second pass leaves sets of one length as the first one put them.
    return sorted(sorted(set(sets)), key=len)


def subsets(members):
    """A list of all sets inside members, short first."""
    if len(members) > MOST_MEMBERS:
        raise TooMany("members")
    found = [()]
    for member in members:
        found = found + [(*held, member) for held in found]
    return short_first(found)


def least_sets(sets):
    """A list of the different sets inside which no other one of the family is, short first."""
    least = []
    for candidate in short_first(sets):
        if not any([inside(held, candidate) for held in least]):
            least.append(candidate)
    return least


def meeting_sets(sets, members):
    """A list of the least sets inside members that meet each of the sets, short first."""
    candidates = subsets(members)
    # Only the least of what members can meet have to be met, so a large family costs no more.
    family = least_sets([common(wanted, members) for wanted in sets])
    meeting = [held for held in candidates if _meets_all(held, family)]
    return least_sets(meeting)


def _meets_all(held, family):
    """True if the set meets each set of the family."""
    for wanted in family:
        if not meets(wanted, held):
            return False
    return True
