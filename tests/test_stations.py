"""Points 76, 79 and 82: one station by itself, with writes that are cut and falls."""

import unittest

from deeplooks.errors import BadNumber, BadPhrase, BadStep
from deeplooks.evidence import Empty, Nonce
from deeplooks.phrases import Look
from deeplooks.phrasetexts import phrase_from
from deeplooks.records import Record, read_log, record_text
from deeplooks.stations import Station
from tests.helpers import FOUR, NO_INTEGERS, ODD, Case, seeded
from tests.sessions import small_phrases
from tests.slowmachine import Shape
from tests.test_phrases import NO_PHRASES
from tests.test_records import some_record

PHRASE = phrase_from("@0((0>1 -> @1((2>3 -> !))))")


class Stations(Case):

    def test_at_first(self):
        for place in range(-1, 4):
            station = Station(FOUR, PHRASE, 5, place)
            self.assertEqual((station.log(), station.records()), ("", []))
            self.assertEqual(station.ready(), (0,) if place == -1 else ())
            self.assertIsNone(station.fall())
            self.assertEqual((station.log(), station.records()), ("", []))

    def test_writes_and_cuts(self):
        chance = seeded(84)
        for _ in range(60):
            station = Station(FOUR, PHRASE, 5, chance.randrange(-1, 4))
            text = ""
            for _ in range(8):
                record = some_record(chance, 3)
                line = record_text(record)
                cuts = {0, len(line) - 1, chance.randrange(len(line))}
                for cut in cuts:
                    self.assertIs(station.write(record, cut=cut), False)
                    self.assertEqual(station.log(), text)
                    self.assertEqual(station.records(), read_log(text))
                for cut in [-1, len(line), len(line) + 7] + NO_INTEGERS:
                    if cut is not None:
                        self.raises(BadStep, "cut", station.write, record, cut=cut)
                if chance.random() < 0.6:
                    self.assertIs(station.write(record), True)
                    text += line
                if chance.random() < 0.4:
                    self.assertIsNone(station.fall())
                self.assertEqual(station.log(), text)
                self.assertEqual(station.records(), read_log(text))

    def test_ready_whatever_the_log_holds(self):
        chance = seeded(85)
        for phrase in small_phrases(86, 30) + [PHRASE]:
            shape = Shape(FOUR, phrase)
            for place in range(-1, 4):
                station = Station(FOUR, phrase, 5, place)
                entries = []
                for _ in range(14):
                    kind = chance.choice(["said", "asked", "begun", "done", "got"])
                    event = chance.randrange(len(shape.events) + 2)
                    if chance.random() < 0.1:
                        event = 99
                    station.write(Record(kind, event, True if kind == "said" else Empty()))
                    entries.append((kind, event, ""))
                    self.assertEqual(station.ready(), shape.ready(place, entries))

    def test_records_of_another_kind_count_for_nothing(self):
        station = Station(FOUR, PHRASE, 5, 0)
        for kind, event in [("begun", 1), ("begun", 5), ("begun", 99), ("said", 0), ("said", 5), ("begun", 2)]:
            station.write(Record(kind, event, True if kind == "said" else Empty()))
            self.assertEqual(station.ready(), ())
        station.write(Record("begun", 0, Nonce(5)))
        self.assertEqual(station.ready(), (1,))
        station.write(Record("asked", 1, Empty()))
        station.write(Record("said", 2, True))
        self.assertEqual(station.ready(), (1,))
        # A look that is got is not said; an ask that is got and not asked is ended, and still ready.
        station.write(Record("got", 1, Empty()))
        self.assertEqual(station.ready(), (1,))
        station.write(Record("said", 1, True))
        station.write(Record("got", 2, Empty()))
        self.assertEqual(station.ready(), (2, 5))
        station.write(Record("done", 5, Empty()))
        self.assertEqual(station.ready(), (2, 5))
        station.write(Record("done", 0, Empty()))
        self.assertEqual(station.ready(), (2,))

    def test_errors(self):
        for value in NO_PHRASES + [Look(0, 1)]:
            self.raises(BadPhrase, "judge" if isinstance(value, Look) else "phrase", Station, FOUR, value, True, True)
        for value in NO_INTEGERS + [-1, 1000000001]:
            self.raises(BadNumber, "nonce", Station, FOUR, PHRASE, value, True)
        for value in NO_INTEGERS + [-2, 4]:
            self.raises(BadNumber, "place", Station, FOUR, PHRASE, 5, value)
        station = Station(FOUR, PHRASE, 0, 3)
        for value in [None, "said 0 +\n", ("said", 0, True), True, ODD, Empty()]:
            self.raises(BadStep, "record", station.write, value, cut=-1)
            self.raises(BadStep, "record", station.write, value)
        self.assertEqual(station.log(), "")

    def test_what_is_returned_is_new(self):
        station = Station(FOUR, PHRASE, 1000000000, 0)
        station.write(Record("begun", 0, Nonce(5)))
        station.records().clear()
        self.assertEqual(station.records(), [Record("begun", 0, Nonce(5))])


if __name__ == "__main__":
    unittest.main()
