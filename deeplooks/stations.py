"""A station: its log, what is ready there, writes that are cut, and falls."""

from deeplooks.errors import BadStep
from deeplooks.logs import check_place, check_session, ready_by
from deeplooks.plans import Plan
from deeplooks.records import Record, mended, read_log, record_text
from deeplooks.sets import is_number


class Station:
    """One place of a session by itself; all that it does follows from its log."""

    def __init__(self, system, phrase, nonce, place):
        check_session(system, phrase, nonce)
        check_place(system, place)
        self._plan = Plan(system, phrase)
        self._place = place
        self._text = ""
        self._read = []

    def log(self):
        """The text of the log."""
        return self._text

    def records(self):
        """A list of the records of the log."""
        return list(self._read)

    def ready(self):
        """The set of the events that are ready here."""
        return ready_by(self._plan, self._place, self._read)

    def write(self, record, *, cut=None):
        """Write the record, True; or only so many signs of its line, False."""
        if not isinstance(record, Record):
            raise BadStep("record")
        line = record_text(record)
        if cut is None:
            self._text = self._text + line
            self._read.append(record)
            return True
        if not is_number(cut, 0, len(line) - 1):
            raise BadStep("cut")
        self._text = self._text + line[:cut]
        self.fall()
        return False

    def fall(self):
        """Lose all but the log, mend it and read it again."""
        self._text = mended(self._text)
        self._read = read_log(self._text)
