"""[20]: the texts of records and states."""

import unittest
from random import Random

from teesizes.errors import InvalidRecord, InvalidState, InvalidText
from teesizes.histories import record_of
from teesizes.live import Source
from teesizes.possible import possible_readers
from teesizes.records import joined, record_by
from teesizes.states import even_state
from teesizes.texts import format_record, format_state, parse_record, parse_state
from tests.helper import Checks, NOT_INTEGERS, NOT_LISTS, NOT_STRINGS, lists_of, nested, wrong_records, zigzag
from tests.walks import small_states

MOST = 10 ** 30
GREATEST = 10 ** 33
WORDS = {1: "u", 0: "s", -1: "d"}

# None of these is a number of a text: too many signs, too few, or others than digits.
NOT_NUMBERS = [
    "", "00", "01", "007", "+1", "-1", "-0", "+0", "1.0", "1e3", "1_0", "0x1", "1,000", "x", "1x", "x1", "1-", "1+",
    ".", "\t1", "1\n", "\n", "1\r", "0" * 35, "0" * 4000, "1" * 35, "9" * 4000, "9" * 5000, "\u0661", "\u00b2",
    "\uff11", "l", "O", "_1",
]
# Nor is one of these a word of a record.
NOT_WORDS = [
    "", "u", "s", "d", "1", "12", "u0", "s0", "d0", f"u{MOST + 1}", f"s{MOST + 1}", f"d{10 * MOST}", f"u{10 ** 39}",
    "U1", "S1", "D1", "1u", "uu1", "us1", "u1s", "u1s1", "u1,", ",u1", "u1u", "x1", "a1", "p1", "(1", "-u1", "+u1",
    "u1\n", "\tu1", "u\n1", "none", *[letter + number for letter in "usd" for number in NOT_NUMBERS],
]


def record_text(record):
    """Return the words of a record, joined one after the other."""
    text = ""
    for change, count in record:
        text += (" " if text else "") + WORDS[change] + str(count)
    return text


class ExamplesTest(Checks, unittest.TestCase):

    def test_examples(self):
        self.assert_same(format_record([(1, 2), (0, 3), (-1, 1)]), "u2 s3 d1")
        self.assert_same(self.assert_raises_exactly(InvalidText, parse_record, "u2 s3 s1").index, 2)


class RecordTextsTest(Checks, unittest.TestCase):

    def check(self, record, text):
        self.assert_same(format_record(record), text)
        self.assert_same(format_record([list(run) for run in record]), text)
        self.assert_same(format_record(tuple(record)), text)
        self.assert_same(parse_record(text), record)

    def test_empty_record(self):
        self.check([], "")
        self.assert_same(format_record(()), "")

    def test_small_records(self):
        for length in range(6):
            for changes in lists_of((1, 0, -1), length):
                record = record_by(changes)
                self.check(record, record_text(record))

    def test_counts(self):
        for change, letter in WORDS.items():
            for count in (1, 9, 10, 11, 99, 100, 1000, 10 ** 29, MOST - 1, MOST):
                self.check([(change, count)], f"{letter}{count}")

    def test_400_runs(self):
        for count in (1, 10, MOST):
            record = zigzag(400, count)
            self.check(record, record_text(record))
        random = Random(20)
        record = [(change, random.randint(1, MOST)) for change, _ in zigzag(400, 1)]
        self.check(record, record_text(record))

    def test_records_that_were_returned(self):
        for record in (
            record_of(4, [0, 0, 1, 2, 1, 3]), record_by([1, -1] * 200), joined([(1, MOST)], [(0, MOST)], []),
            Source.from_history(["a", "b"], ["a", "b", "a"]).current_record(),
        ):
            self.check(record, record_text(record))
        text = format_record(zigzag(400, MOST))
        self.assertGreater(len(text), 4000)
        self.assertEqual(format_record(parse_record(text)), text)

    def test_wrong_records(self):
        for value in wrong_records():
            self.assert_raises_exactly(InvalidRecord, format_record, value)


class RecordErrorsTest(Checks, unittest.TestCase):

    def assert_index(self, text, index):
        self.assert_same(self.assert_raises_exactly(InvalidText, parse_record, text).index, index)

    def test_wrong_words(self):
        for word in NOT_WORDS:
            if word:
                self.assert_index(word, 0)
            self.assert_index(f"{word} u1", 0)
            self.assert_index(f"{word} {word}", 0)
            self.assert_index(f"u1 {word}", 1)
            self.assert_index(f"s7 d3 s1 u5 {word} s1 x", 4)

    def test_each_sign(self):
        for sign in map(chr, range(128)):
            if sign not in "0123456789 ":
                self.assert_index(f"s1 u1{sign}", 1)
                self.assert_index(f"s1 u{sign}1", 1)
            if sign not in "usd ":
                self.assert_index(f"{sign}1", 0)
                self.assert_index(f"{sign}u1", 0)

    def test_spaces(self):
        for text, index in (
            (" ", 0), ("  ", 0), (" u1", 0), ("u1 ", 1), ("u1  s1", 1), ("u1 s1  ", 2), ("u1   s1", 1), ("u 1", 0),
            ("u1\ts1", 0), ("u1\ns1", 0), ("u1 s1\n", 1), ("u1, s1", 0), ("\u00a0u1", 0),
        ):
            self.assert_index(text, index)

    def test_neighbours_with_the_same_change(self):
        for letter in "usd":
            other = "s" if letter == "u" else "u"
            self.assert_index(f"{letter}1 {letter}1", 1)
            self.assert_index(f"{letter}1 {other}2 {letter}3 {letter}4 {letter}5", 3)
            self.assertEqual(len(parse_record(f"{letter}1 {other}2 {letter}3")), 3)
            # The word before is none, so that it comes first.
            self.assert_index(f"{letter}0 {letter}1", 0)
            self.assert_index(f"{letter}1 {letter}0", 1)

    def test_400_and_401_words(self):
        text = " ".join(["u1", "s1"] * 200)
        self.assertEqual(parse_record(text), [(1, 1), (0, 1)] * 200)
        self.assert_index(text[:-2] + "x", 399)
        self.assert_index(text[:-2] + "u1", 399)
        for more in ("u1", "", "x", "s1", "s0", " "):
            self.assert_index(f"{text} {more}", None)
        # Too many words come before the first wrong one.
        self.assert_index(" ".join(["x"] * 401), None)
        self.assert_index(" ".join(["x"] * 400), 0)
        self.assert_index(" " * 400, None)
        self.assert_index(" " * 399, 0)

    def test_other_kinds(self):
        for value in NOT_STRINGS:
            self.assert_index(value, None)


class StateTextsTest(Checks, unittest.TestCase):

    def check(self, state, text):
        self.assert_same(format_state(state), text)
        self.assert_same(format_state(tuple(state)), text)
        self.assert_same(parse_state(text), state)

    def test_small_states(self):
        for readers in (1, 2, 3, 4):
            for state in small_states(readers, 4):
                self.check(state, " ".join(str(entry) for entry in state))

    def test_entries(self):
        for entry in (0, 1, 9, 10, 11, 99, 100, MOST, MOST + 1, GREATEST - 1, GREATEST):
            self.check([entry], f"{entry}")
            self.check([entry, 0], f"{entry} 0")
            self.check([entry, entry], f"{entry} {entry}")

    def test_200_entries(self):
        for entry in (0, 7, GREATEST):
            self.check([entry] * 200, " ".join([str(entry)] * 200))
        random = Random(33)
        state = sorted([random.randint(0, GREATEST) for _ in range(200)], reverse=True)
        self.check(state, " ".join(map(str, state)))

    def test_states_that_were_returned(self):
        great = zigzag(2, MOST) * 200
        state = even_state(great, possible_readers(great)[0])
        self.check(state, " ".join(map(str, state)))
        self.check(even_state([(1, 2), (0, 3), (-1, 1)], 4), "2 2 1 1")

    def test_wrong_states(self):
        wrong = [
            [], (), [0, 1], [3, 2, 2, 3], [-1], [1, -1], [GREATEST + 1], [GREATEST + 1, 0], [10 ** 5000], [0] * 201,
            nested(20), *NOT_LISTS,
        ]
        for item in NOT_INTEGERS:
            wrong += [[item, 0, 0], [3, item, 0], (3, 1, item)]
        for value in wrong:
            self.assert_raises_exactly(InvalidState, format_state, value)


class StateErrorsTest(Checks, unittest.TestCase):

    def assert_index(self, text, index):
        self.assert_same(self.assert_raises_exactly(InvalidText, parse_state, text).index, index)

    def test_wrong_words(self):
        for word in [*NOT_NUMBERS, str(GREATEST + 1), str(10 ** 39), "u1", "s0", "d2"]:
            if word:
                self.assert_index(word, 0)
            self.assert_index(f"{word} 0", 0)
            self.assert_index(f"{GREATEST} {word}", 1)
            self.assert_index(f"9 5 5 1 {word} 0 x", 4)

    def test_each_sign(self):
        for sign in map(chr, range(128)):
            if sign not in "0123456789 ":
                self.assert_index(f"100 1{sign}", 1)
                self.assert_index(f"100 {sign}1", 1)
                self.assert_index(sign, 0)

    def test_empty_string(self):
        self.assert_index("", 0)

    def test_spaces(self):
        for text, index in (
            (" ", 0), ("  ", 0), (" 1", 0), ("1 ", 1), ("1  1", 1), ("2 1  ", 2), ("1\t1", 0), ("1\n", 0), ("2, 1", 0),
        ):
            self.assert_index(text, index)

    def test_entries_that_ascend(self):
        for text, index in (
            ("0 1", 1), ("1 2", 1), ("9 10", 1), ("3 3 4", 2), ("5 4 3 4 9", 3), (f"{GREATEST - 1} {GREATEST}", 1),
            ("2 1 1 1 2 x", 4), ("1 x 2", 1),
        ):
            self.assert_index(text, index)

    def test_200_and_201_words(self):
        text = " ".join(["1"] * 200)
        self.assertEqual(parse_state(text), [1] * 200)
        self.assert_index(text[:-1] + "2", 199)
        for more in ("1", "0", "", "x", "2"):
            self.assert_index(f"{text} {more}", None)
        self.assert_index(" ".join(["x"] * 201), None)
        self.assert_index(" ".join(["x"] * 200), 0)
        self.assert_index(" " * 200, None)
        self.assert_index(" " * 199, 0)

    def test_other_kinds(self):
        for value in NOT_STRINGS:
            self.assert_index(value, None)


if __name__ == "__main__":
    unittest.main()
