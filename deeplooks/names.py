"""Named lines: phrases that are put together from named ones."""

from deeplooks.errors import BadPhrase, BadText
from deeplooks.phrasereading import PhraseReading
from deeplooks.sets import is_list


def named_from(lines):
    """The phrase of the last line, each name replaced by the phrase of its line."""
    told = uses(lines)
    line_of_name = {_line_read(line, {})[0]: line for line in lines}
    built = {}
    waiting = list(told)
    while waiting:
        ready = [name for name in waiting if _all_in(told[name], built)]
        if not ready:
            raise BadPhrase("ring")
        for name in ready:
            built[name] = _line_read(line_of_name[name], built)[1]
        waiting = [name for name in waiting if name not in built]
    return built[list(told)[-1]]


def uses(lines):
    """A dict from each name to the different names that its line holds."""
    told = {}
    twice = False
    for name, held in _lines_read(lines):
        twice = twice or name in told
        told[name] = held
    if twice or not all([_all_in(held, told) for held in told.values()]):
        raise BadPhrase("name")
    return told


def _lines_read(lines):
    """A list of the name of each line and the different names that it holds."""
    if not is_list(lines) or len(lines) == 0:
        raise BadText((0, 0))
    found = []
    for k, line in enumerate(lines):
        if not isinstance(line, str):
            raise BadText((k, 0))
        try:
            name, _, held = _line_read(line, {})
        except BadText as wrong:
            raise BadText((k, wrong.place)) from wrong
        found.append((name, _different(held)))
    return found


def _line_read(line, known):
    """The name, the phrase and the held names of a line; known tells the phrases of names."""
    reading = PhraseReading(line, known)
    name = reading.read_name()
    reading.take_word(" = ")
    phrase = reading.read_phrase()
    reading.take_end()
    return (name, phrase, reading.held)


def _different(names):
    """The different names, in the order in which each stands first."""
    return list({name: True for name in names})


def _all_in(names, known):
    """True if each of the names is a key of known."""
    return all([name in known for name in names])
