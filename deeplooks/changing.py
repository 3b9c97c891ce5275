"""Which copies of words a foe can change on their way to the judge."""

from deeplooks.handling import handling_of
from deeplooks.sets import is_int, is_list
from deeplooks.ways import all_ways, way_of
from deeplooks.worth import copies_of


def bad_looks(system, phrase, row, run):
    """The set of the numbers of the honestly bad looks."""
    return handling_of(system, phrase, row, run, False).heard_looks(run)


def words_of(system, phrase, row, run):
    """A tuple: for each look number False if the look is honestly bad, else True."""
    handling = handling_of(system, phrase, row, run, False)
    bad = handling.heard_looks(run)
    return tuple([number not in bad for number in range(len(handling.look_events))])


def change_steps(system, phrase, row, run, path, *, memory=False):
    """A tuple of the indexes of the steps at which the copy is changeable."""
    handling = handling_of(system, phrase, row, run, memory)
    stops = handling.stops_of(way_of(system, phrase, path))
    return tuple([k for k, stop in enumerate(stops) if handling.is_changed(run, stop)])


def changeable(system, phrase, row, run, path, *, memory=False):
    """True if the copy is changeable at some step."""
    return change_steps(system, phrase, row, run, path, memory=memory) != ()


def blocked(system, phrase, row, run, path, *, memory=False):
    """A reason why the copy is not changeable, None if it is."""
    choices = _choices(system, phrase, row, run, path, memory)
    if not all([signs for _, signs in choices]):
        return None
    return tuple([(k, *signs[0]) for k, signs in choices])


def is_blocked(system, phrase, row, run, path, told, *, memory=False):
    """True if told is a reason for the copy; a value of any kind may be asked for."""
    choices = _choices(system, phrase, row, run, path, memory)
    if not is_list(told) or len(told) != len(choices):
        return False
    return all([_is_among(triple, k, signs) for triple, (k, signs) in zip(told, choices)])


def first_kept(system, phrase, row, run, *, memory=False):
    """The first copy of an honestly bad look that is not changeable, None if there is none."""
    handling = handling_of(system, phrase, row, run, memory)
    copies = copies_of(phrase)
    ways = all_ways(system, phrase)
    kept = []
    for number in handling.heard_looks(run):
        for path, way in zip(copies[number], ways[number]):
            if not handling.is_changeable(run, handling.stops_of(way)):
                kept.append(path)
    # "left" is less than "right", and a path less than a longer one that begins so.
    return min(kept, default=None)


def unread(system, phrase, row, run, *, memory=False):
    """True if each copy of each honestly bad look is changeable."""
    return first_kept(system, phrase, row, run, memory=memory) is None


def _choices(system, phrase, row, run, path, memory):
    """A list of the steps with bad-managed positions, each with its signs whose keys are not out."""
    handling = handling_of(system, phrase, row, run, memory)
    choices = []
    for k, (i, signs) in enumerate(handling.stops_of(way_of(system, phrase, path))):
        if handling.is_bad_managed(run, i):
            choices.append((k, [sign for sign in signs if not handling.is_out(run, sign[1], i)]))
    return choices


def _is_among(value, k, signs):
    """True if value is a list or tuple of the step's index and of one of the signs, three integers."""
    if not is_list(value) or len(value) != 3 or not all([is_int(number) for number in value]):
        return False
    return value[0] == k and (value[1], value[2]) in signs
