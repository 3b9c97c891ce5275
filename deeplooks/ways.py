"""The ways of copies: by which events a word goes until it stands in the evidence of the phrase."""

from deeplooks.checks import JUDGE, check_phrase
from deeplooks.errors import NotThere
from deeplooks.flows import copy_flows
from deeplooks.sets import is_list


def way_of(system, phrase, path):
    """A tuple of the steps of the copy at this path."""
    check_phrase(system, phrase)
    if not is_list(path) or not all([isinstance(step, str) for step in path]):
        raise NotThere("path")
    wanted = tuple(path)
    for flows in copy_flows(phrase):
        for found, steps, _ in flows:
            if found == wanted:
                return steps
    raise NotThere("path")


def round_of(step):
    """The set of the places in the signs of the step."""
    return tuple(sorted(set([place for _, place in step[2]])))


def all_ways(system, phrase):
    """A tuple: for each look number the tuple of its copies' ways, in reading order."""
    check_phrase(system, phrase)
    return tuple([tuple([flow[1] for flow in flows]) for flows in copy_flows(phrase)])


def left_before(system, phrase, path):
    """A tuple: for each step of the copy's way the set of the places left ahead of it."""
    way = way_of(system, phrase, path)
    return tuple([_left(way[1:k]) for k in range(len(way))])


def _left(steps):
    """The set of the places of the steps, the judge not counted."""
    return tuple(sorted({place for _, place, _ in steps if place != JUDGE}))
