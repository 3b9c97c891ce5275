"""Systems: parts with their homes and needs, places with their managers."""

from deeplooks.errors import BadNumber, BadSystem
from deeplooks.sets import check_number, inside, is_list, is_number, is_set, joined, meets, set_of

MOST_PARTS = 8
MOST_PLACES = 4


class System:
    """Parts and places; what a measurer says is worth as much as the parts that it needs."""

    def __init__(self, places, homes, needs, managers):
        if not is_number(places, 1, MOST_PLACES):
            raise BadSystem("places")
        if not _are_homes(homes, places):
            raise BadSystem("homes")
        if not are_sets(needs, len(homes)):
            raise BadSystem("needs")
        if not are_managers(managers, homes, places):
            raise BadSystem("managers")
        self.places = places
        self.homes = tuple(homes)
        self.needs = tuple([joined(need, (part,)) for part, need in enumerate(needs)])
        self.managers = tuple(managers)

    @property
    def many(self):
        """The number of parts."""
        return len(self.homes)

    @classmethod
    def standing(cls, places, homes, direct, managers):
        """The system in which each part needs all that is reached from it by what parts stand on."""
        needs = direct
        # A wrong direct is passed on as it is, so that the errors come in their order.
        if is_list(homes) and are_sets(direct, len(homes)):
            needs = [_reached(direct, part) for part in range(len(direct))]
        return cls(places, homes, needs, managers)

    def at_home(self, place):
        """The set of the parts at home at the place."""
        check_number(place, 0, self.places - 1, "place")
        return tuple([part for part, home in enumerate(self.homes) if home == place])

    def void(self, a, b):
        """True if the measurer a needs its target b."""
        if not is_number(a, 0, self.many - 1) or not is_number(b, 0, self.many - 1):
            raise BadNumber("part")
        return b in self.needs[a]

    def grounded(self, a, bad):
        """True if nothing that a needs is in the set bad."""
        check_number(a, 0, self.many - 1, "part")
        held = set_of(bad, self.many, "bad")
        return not meets(self.needs[a], held)

    def __add__(self, other):
        parts = len(self.homes)
        places = self.places + other.places
        if parts + len(other.homes) > MOST_PARTS:
            raise BadSystem("homes")
        if places > MOST_PLACES:
            raise BadSystem("places")
        homes = [home + self.places for home in other.homes]
        needs = [_moved(need, parts) for need in other.needs]
        managers = _moved(other.managers, parts)
        return System(places, (*self.homes, *homes), (*self.needs, *needs), (*self.managers, *managers))

    def __eq__(self, other):
        if not isinstance(other, System):
            return False
        if self.places != other.places or self.homes != other.homes:
            return False
        return self.needs == other.needs and self.managers == other.managers


def are_sets(value, many):
    """True if value is a list or tuple of as many sets of integers below many as many tells."""
    return is_list(value) and len(value) == many and all([is_set(member, many) for member in value])


def are_managers(value, homes, places):
    """True if value is a list or tuple of one part for each place, at home there."""
    if not is_list(value) or len(value) != places:
        return False
    if not all([is_number(part, 0, len(homes) - 1) for part in value]):
        return False
    return all([homes[part] == place for place, part in enumerate(value)])


def _are_homes(value, places):
    """True if value is a list or tuple of 1 to 8 places."""
    if not is_list(value) or len(value) < 1 or len(value) > MOST_PARTS:
        return False
    return all([is_number(home, 0, places - 1) for home in value])


def _reached(direct, part):
    """The set of the parts that are reached from the part, itself too."""
    found = (part,)
    while True:
        larger = found
        for held in found:
            larger = joined(larger, direct[held])
        if inside(larger, found):
            return found
        found = larger


def _moved(parts, by):
    """The parts under the integers that are larger by so much."""
    return tuple([part + by for part in parts])
