"""Runs played deed by deed."""

from deeplooks.errors import BadDeed, BadRun, BadSet
from deeplooks.growth import grow_steps
from deeplooks.runs import Run, begins_with, misfit
from deeplooks.sets import inside, is_list, is_number, is_set, joined, without


def run_deeds(foe, run):
    """The fewest deeds that give the run: its start, and the deeds of each gap."""
    wrong = misfit(foe, run)
    if wrong is not None:
        raise BadRun(wrong[0])
    start = begins_with(foe, run, 0)
    return (start, tuple([_gap_deeds(foe, run, gap) for gap in range(len(run.moments))]))


def _gap_deeds(foe, run, gap):
    """The fewest deeds of one gap: the corruptions, then the mends."""
    moments = run.moments[gap]
    others = without(tuple(range(foe.many)), moments)
    steps = grow_steps(foe, begins_with(foe, run, gap), others)
    deeds = [("corrupt", part) for _, part in steps]
    # Behind the last position nothing has to be mended.
    if gap < len(run.states):
        deeds = deeds + [("mend", part) for part in without(moments, run.states[gap])]
    return tuple(deeds)


def played(foe, start, gaps):
    """The run that these deeds make; BadDeed((gap, k)) tells the first deed that is not allowed."""
    if not is_set(start, foe.many) or not inside(start, foe.early):
        raise BadSet("start")
    bad = tuple(sorted(start))
    moments = []
    ends = []
    for gap, deeds in enumerate(gaps):
        seen = bad
        for k, deed in enumerate(deeds):
            if not _is_allowed(foe, bad, deed):
                raise BadDeed((gap, k))
            bad = _done(bad, deed)
            seen = joined(seen, bad)
        moments.append(seen)
        ends.append(bad)
    return Run(moments, ends[:-1])


def deeds_many(start, gaps):
    """The number of the parts of start and of all deeds together."""
    return len(start) + sum([len(deeds) for deeds in gaps])


def _is_allowed(foe, bad, deed):
    """True if deed is a deed, and one that is allowed when these parts are bad."""
    if not is_list(deed) or len(deed) != 2 or not isinstance(deed[0], str):
        return False
    word, part = deed
    if not is_number(part, 0, foe.many - 1):
        return False
    if word == "corrupt":
        return part not in bad and any([led == part and inside(premise, bad) for premise, led in foe.rules])
    return word == "mend" and part in bad and part not in foe.stuck


def _done(bad, deed):
    """The bad set behind an allowed deed."""
    word, part = deed
    if word == "corrupt":
        return joined(bad, (part,))
    return without(bad, (part,))
