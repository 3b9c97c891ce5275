"""Trials: blocks in which a desk may be changed, and behind which it is as it was."""

from deeplooks.errors import BadBook
from deeplooks.sets import is_list


class Trial:
    """One block in which the desk may be changed."""

    def __init__(self, desk):
        self.ended = False
        self._begun = False
        self._desk = desk
        self._page = None
        self._earlier = None
        self._later = None

    def begin(self):
        """Begin the block; the desk itself is returned."""
        if self._begun:
            raise BadBook("trial")
        self._begun = True
        self._page = self._desk.page
        self._earlier = self._desk.earlier
        self._later = self._desk.later
        return self._desk

    def finish(self):
        """End the block: the desk is as it was when it began."""
        if not self._begun or self.ended:
            raise BadBook("trial")
        desk = self._desk
        desk.page = self._page
        desk.earlier = self._earlier
        desk.later = self._later
        self.ended = True

    def __enter__(self):
        return self.begin()

    def __exit__(self, kind, value, trace):
        desk = self._desk
        desk.page = self._page
        desk.earlier = self._earlier
        desk.later = self._later
        self.ended = True


def tried(desk, changes, question):
    """What question tells of the desk behind the changes, in a trial."""
    if not is_list(changes) or not all([_is_change(desk, change) for change in changes]):
        raise BadBook("change")
    with Trial(desk) as held:
        for name, arguments in changes:
            change = _methods_of(held)[name]
            change(*arguments)
        return question(held)


def _methods_of(desk):
    """A dict from the names of what can be done in a trial to the desk's methods."""
    return {
        "set_foe": desk.set_foe,
        "set_phrase": desk.set_phrase,
        "want": desk.want,
        "drop": desk.drop,
        "put_out": desk.put_out,
        "add_rule": desk.add_rule,
        "add_look": desk.add_look,
        "sign_all": desk.sign_all,
        "undo": desk.undo,
        "again": desk.again,
    }


def _is_change(desk, value):
    """True if the value is a list or tuple of such a name and of a list or tuple."""
    if not is_list(value) or len(value) != 2 or not isinstance(value[0], str):
        return False
    return value[0] in _methods_of(desk) and is_list(value[1])
