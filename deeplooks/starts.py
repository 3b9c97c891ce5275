"""Start looks, sealed keys, and the evidence that comes to the judge behind them."""

from deeplooks.aims import aim_in_row, check_parts
from deeplooks.checks import check_phrase, event_many
from deeplooks.covers import MOST_POSITIONS, check_length, check_position, is_honestly_bad, is_reached
from deeplooks.errors import BadRow, BadRun, BadSet, BadTour
from deeplooks.events import order_of
from deeplooks.evidence import Broken, Pair, Said, Signed, at_path, put_at
from deeplooks.handling import Handling
from deeplooks.logs import check_session
from deeplooks.openness import event_line
from deeplooks.readers import checked_events, event_aim
from deeplooks.registers import clean_register, register_of
from deeplooks.rows import is_row, rows_of
from deeplooks.sending import opened
from deeplooks.sets import check_number, common, is_list, is_number, meets, set_of
from deeplooks.sieves import sieve
from deeplooks.ways import all_ways
from deeplooks.worth import clean_of, copies_of

MOST_START_LOOKS = 4


class Starts:
    """The start looks of each place of a system, and the places whose keys are sealed."""

    def __init__(self, system, rows, sealed):
        if not is_list(rows) or len(rows) != system.places:
            raise BadTour("rows")
        if not all([_is_start_row(system, row, place) for place, row in enumerate(rows)]):
            raise BadTour("rows")
        self.system = system
        self.sealed = set_of(sealed, system.places, "sealed")
        self.rows = tuple([tuple([tuple(look) for look in row]) for row in rows])

    def looks(self):
        """A tuple of all start looks, place by place."""
        return tuple([look for row in self.rows for look in row])

    def first_of(self, place):
        """How many start looks come ahead of those of the place."""
        check_number(place, 0, self.system.places - 1, "place")
        return sum([len(row) for row in self.rows[:place]])


class Sealing:
    """Called with a run and a position of the joined line, it tells if the position is covered there."""

    def __init__(self, starts, phrase, row):
        self.line = joined_line(starts, phrase, row)
        self._needs = starts.system.needs
        counting = counts(starts, phrase)
        # The place of each start look counts or not.
        self._counted = [place in counting for place, looks in enumerate(starts.rows) for _ in looks]
        self._handling = _handling_of(starts, phrase, row)
        self._copies = self._handling.copy_stops(all_ways(starts.system, phrase))

    def __call__(self, run, i):
        check_length(self.line, run)
        check_position(self.line, i)
        look = self.line[i]
        if look is None or meets(self._needs[look[0]], run.states[i]):
            return True
        first = len(self._counted)
        if i < first:
            return not self._counted[i]
        copies = self._copies[self._handling.look_at(i - first)]
        return all([self._handling.is_changeable(run, stops) for stops in copies])


def joined_line(starts, phrase, row):
    """The start looks and behind them the line of the row, a tuple."""
    _check_row(starts, phrase, row)
    return (*starts.looks(), *event_line(starts.system, phrase, row))


def counts(starts, phrase):
    """The set of the places with a sealed key by which something in the clean evidence is signed."""
    pieces = opened([clean_of(starts.system, phrase, 0)])
    signing = [piece.place for piece in pieces if isinstance(piece, Signed)]
    return common(starts.sealed, signing)


def sealed_reads(foe, starts, phrase, row):
    """The greatest taken run of the foe on the joined line."""
    check_phrase(starts.system, phrase)
    check_parts(starts.system, foe)
    sealing = Sealing(starts, phrase, row)
    return sieve(foe, sealing.line, sealing)


def sealed_taken(foe, starts, phrase, aim):
    """The first row whose greatest taken run reaches the aim, and this run; None if there is none."""
    wanted = event_aim(starts.system, foe, phrase, aim)
    _check_room(starts, phrase)
    order = checked_events(starts.system, phrase)
    first = len(starts.looks())
    for row in rows_of(order):
        run = sealed_reads(foe, starts, phrase, row)
        target, i = aim_in_row(wanted, row)
        if is_reached(run, (target, None if i is None else first + i)):
            return (row, run)
    return None


def sealed_evidence(starts, phrase, nonce, row, run):
    """What comes to the judge in the run if all is changed that can be."""
    check_session(starts.system, phrase, nonce)
    check_length(joined_line(starts, phrase, row), run)
    handling = _handling_of(starts, phrase, row)
    evidence = clean_of(starts.system, phrase, nonce)
    copies = copies_of(phrase)
    ways = all_ways(starts.system, phrase)
    for number in handling.heard_looks(run):
        for path, way in zip(copies[number], ways[number]):
            if not handling.is_changeable(run, handling.stops_of(way)):
                said = at_path(evidence, path)
                evidence = put_at(evidence, path, Said(number, said.measurer, said.target, False, said.inner))
    return _broken(evidence, [place for place in starts.sealed if not _is_clean(starts, place, run)])


def register_at(starts, place, run):
    """The register of the place behind its start looks, as they speak in the run."""
    first = starts.first_of(place)
    if len(run.states) < len(starts.looks()):
        raise BadRun(-1)
    row = starts.rows[place]
    bad = [is_honestly_bad(starts.system, look, run.states[first + k]) for k, look in enumerate(row)]
    return register_of(row, [not heard for heard in bad])


def chain(system, parts):
    """The looks of the chain of these parts, a tuple of tuples."""
    # A chain has a sense of its own, so the parts are not put in ascending order.
    set_of(parts, system.many, "parts")
    if len(parts) < 2:
        raise BadSet("parts")
    return tuple([(part, following) for part, following in zip(parts, parts[1:])])


def _is_start_row(system, value, place):
    """True if the value is a list or tuple of at most 4 pairs of parts at home at the place."""
    if not is_list(value) or len(value) > MOST_START_LOOKS:
        return False
    return all([_is_start_look(system, look, place) for look in value])


def _is_start_look(system, value, place):
    """True if the value is a pair of parts at home at the place."""
    if not is_list(value) or len(value) != 2:
        return False
    return all([is_number(part, 0, system.many - 1) and system.homes[part] == place for part in value])


def _check_row(starts, phrase, row):
    """The errors of the phrase and the row, then BadTour if the joined line would be too long."""
    if not is_row(order_of(starts.system, phrase), row):
        raise BadRow(0)
    _check_room(starts, phrase)


def _check_room(starts, phrase):
    """BadTour if the joined line would be too long."""
    if len(starts.looks()) + event_many(phrase) > MOST_POSITIONS:
        raise BadTour("rows")


def _handling_of(starts, phrase, row):
    """How the events of the row are handled behind the start looks."""
    return Handling(starts.system, phrase, row, False, ahead=len(starts.looks()), sealed=starts.sealed)


def _is_clean(starts, place, run):
    """True if the register of the place is clean behind its start looks."""
    return register_at(starts, place, run) == clean_register(starts.rows[place])


def _broken(evidence, places):
    """The evidence with a broken piece for each outermost one that one of the places would have signed."""
    if isinstance(evidence, Signed):
        if evidence.place in places:
            return Broken(evidence.place)
        return Signed(evidence.sign, evidence.place, _broken(evidence.inner, places))
    if isinstance(evidence, Said):
        inner = _broken(evidence.inner, places)
        return Said(evidence.look, evidence.measurer, evidence.target, evidence.good, inner)
    if isinstance(evidence, Pair):
        return Pair(_broken(evidence.left, places), _broken(evidence.right, places))
    return evidence
