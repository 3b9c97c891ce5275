"""Points 78 and 82: records, their lines, logs that are read and mended."""

import unittest

from deeplooks.errors import BadStep, BadText
from deeplooks.evidence import Empty, Nonce, Signed
from deeplooks.evidencetexts import evidence_text
from deeplooks.records import Record, mended, read_log, record_text
from tests.helpers import NO_INTEGERS, NO_TEXTS, ODD, Case, longest_beginning, near_texts, seeded
from tests.test_evidence import NO_EVIDENCE, some_evidence
from tests.test_evidencetexts import GRAMMAR

KINDS = ["asked", "begun", "done", "got"]
LINES = dict(GRAMMAR)
LINES["LINE"] = [tuple("said ") + ("LEAF", " ", "+-")]
LINES["LINE"] += [tuple(kind + " ") + ("LEAF", " ", "EVIDENCE") for kind in KINDS]
LINES["LINES"] = [(), ("LINE", "\n", "LINES")]
SIGNS = "0195 +-#_x!@:>()[],\nsaidegotbun"


def some_record(chance, deep=4):
    """A record of any kind."""
    kind = chance.choice(["said"] + KINDS)
    event = chance.choice([0, 1, 9, 10, 55, 99])
    what = chance.random() < 0.5 if kind == "said" else some_evidence(chance, deep)
    return Record(kind, event, what)


def is_line(text):
    """True if the text is the line of a record, its line feed left out, by point 78."""
    length, whole = longest_beginning(text, LINES, "LINE")
    return whole and length == len(text)


class Records(Case):

    def test_attributes_and_lines(self):
        told = [("said", 0, True, "said 0 +\n"), ("said", 99, False, "said 99 -\n"),
                ("asked", 3, Nonce(5), "asked 3 #5\n"), ("begun", 10, Empty(), "begun 10 _\n"),
                ("done", 0, Signed(0, 1, Empty()), "done 0 !0@1(_)\n"), ("got", 1, Nonce(0), "got 1 #0\n")]
        for kind, event, what, text in told:
            record = Record(kind, event, what)
            self.assertEqual((record.kind, record.event), (kind, event))
            self.assertIs(record.what, what)
            self.assertEqual(record_text(record), text)
            self.assertEqual(read_log(text), [record])

    def test_errors_in_their_order(self):
        for value in NO_INTEGERS + NO_TEXTS + ["", "Said", "said ", "sent", "answer", ("said",), ["said"]]:
            self.raises(BadStep, "kind", Record, value, True, None)
        for value in NO_INTEGERS + [-1, 100]:
            for kind in ["said"] + KINDS:
                self.raises(BadStep, "event", Record, kind, value, None)
        for value in NO_EVIDENCE + [True, False]:
            for kind in KINDS:
                self.raises(BadStep, "what", Record, kind, 0, value)
        for value in [1, 0, None, "+", "", Empty(), [], ODD, 1.0]:
            self.raises(BadStep, "what", Record, "said", 0, value)

    def test_equality(self):
        record = Record("said", 1, True)
        self.assertTrue(record == Record("said", 1, True))
        for other in [Record("said", 1, False), Record("said", 2, True), Record("got", 1, Empty()), None, "said 1 +", 1]:
            self.assertFalse(record == other)
        self.assertTrue(Record("got", 1, Nonce(1)) == Record("got", 1, Nonce(1)))
        self.assertFalse(Record("got", 1, Nonce(1)) == Record("got", 1, Nonce(2)))
        self.assertFalse(Record("got", 1, Nonce(1)) == Record("begun", 1, Nonce(1)))

    def test_both_ways(self):
        chance = seeded(63)
        for _ in range(200):
            records = [some_record(chance) for _ in range(chance.randrange(5))]
            text = "".join(record_text(record) for record in records)
            self.assertEqual(read_log(text), records)
            self.assertIs(type(read_log(text)), list)
            self.assertEqual("".join(record_text(record) for record in read_log(text)), text)
            # What stands behind the last line feed is no record.
            for more in ("said", "said 0 +", " ", "#", "x"):
                self.assertEqual(read_log(text + more), records)
                self.assertEqual(mended(text + more), text)
            self.assertEqual(mended(text), text)

    def test_empty_logs(self):
        self.assertEqual(read_log(""), [])
        self.assertEqual(read_log("said 0 +"), [])
        self.assertEqual([mended(""), mended("said 0 +"), mended("\n"), mended("a\nb\nc")], ["", "", "\n", "a\nb\n"])

    def test_near_lines(self):
        chance = seeded(64)
        wrong = 0
        for _ in range(60):
            ahead = [record_text(some_record(chance, 2)) for _ in range(chance.randrange(3))]
            line = record_text(some_record(chance, 3))
            for near in near_texts(line, SIGNS):
                text = "".join(ahead) + near
                told = text.split("\n")[:-1]
                right = [is_line(one) for one in told]
                if all(right):
                    found = read_log(text)
                    self.assertEqual("".join(record_text(record) for record in found), mended(text))
                else:
                    wrong += 1
                    self.raises(BadText, right.index(False), read_log, text)
        self.assertGreater(wrong, 2000)

    def test_wrong_lines(self):
        lines = ["", " ", "said", "said 0", "said 0 ", "said 0 + ", " said 0 +", "said  0 +", "said 00 +", "said 01 +",
                 "said 100 +", "said -1 +", "said 0 #5", "said 0 ++", "got 0 +", "got 0 -", "got 0 #01", "got 0 ",
                 "got 100 _", "sent 0 _", "done 0 _ _", "done 0 x4", "done 0 !0@0(_", "Said 0 +", "said 0 + x"]
        for line in lines:
            self.assertFalse(is_line(line), line)
            self.raises(BadText, 0, read_log, line + "\n")
            self.raises(BadText, 2, read_log, "said 0 +\ngot 1 _\n" + line + "\nsaid 0 +\n" + line + "\n")

    def test_no_text(self):
        for value in NO_TEXTS:
            self.raises(BadText, 0, read_log, value)

    def test_mending_twice(self):
        chance = seeded(65)
        for _ in range(100):
            text = "".join(record_text(some_record(chance, 2)) for _ in range(3))
            cut = text[:chance.randrange(len(text) + 1)]
            once = mended(cut)
            self.assertEqual(mended(once), once)
            self.assertTrue(cut.startswith(once))
            self.assertNotIn("\n", cut[len(once):])
            self.assertTrue(once == "" or once.endswith("\n"))
            self.assertEqual(read_log(cut), read_log(once))

    def test_evidence_of_records_has_its_text(self):
        chance = seeded(66)
        for _ in range(50):
            evidence = some_evidence(chance, 5)
            self.assertEqual(record_text(Record("got", 7, evidence)), f"got 7 {evidence_text(evidence)}\n")


if __name__ == "__main__":
    unittest.main()
