"""[8], [9] (b) and [13]: the numbers of readers that can have made a record."""

import unittest

from teesizes.errors import InvalidReaders, InvalidRecord
from teesizes.possible import is_possible, obstruction, obstructs, possible_readers
from tests.helper import Checks, NOT_INTEGERS, NOT_LISTS, lists_of, nested, runs_of, wrong_records, zigzag
from tests.walks import (
    are_obstruction, ends_of, first_reads, long_records, possible_walks, totals_at, totals_at_ends, walks,
)

MOST = 10 ** 30
MOST_READERS = 10 ** 39
RECORD = [(1, 2), (0, 3), (-1, 1)]
WORDS = ["single", "two", "few", "many"]
GREAT_RECORDS = [
    [(1, MOST)], [(0, MOST)], [(-1, MOST)], zigzag(400, MOST), zigzag(400, 1), [(1, 1), (0, MOST)],
    [(1, 1), (0, MOST), (-1, 1)], [(1, MOST), (0, 1)], [(1, MOST), (0, MOST), (-1, MOST)],
    [(1, MOST), (-1, MOST)] * 200, [(1, MOST), (0, MOST)] * 200, [(0, MOST), (1, MOST)] * 200,
    [(1, 1), (0, MOST), (-1, 1), (0, MOST), (1, 1), (0, MOST), (-1, 3)],
    [(1, MOST), (0, 2 * 10 ** 29), (-1, 10 ** 10)], [(1, 10 ** 10), (0, 10 ** 29 + 7), (-1, 3)],
]


def great_records():
    """Return long records that are possible for some numbers of readers or for none."""
    found = list(GREAT_RECORDS)
    for readers in (1, 2, 3, 4, 7, 200, 10 ** 12):
        for record in long_records(readers, 400, readers, 3):
            found.extend([record, record[:57], [(-change, count) for change, count in record]])
    return found


def fits_at_all_ends(record, readers):
    """Return whether none of [8] is an obstruction with the reads up to the end of a run."""
    return not any(
        are_obstruction(readers, word, totals) for totals in totals_at_ends(record)[1:] for word in WORDS
    )


class ExamplesTest(Checks, unittest.TestCase):

    def test_examples(self):
        records = [RECORD, [(1, 1), (0, 10 ** 30)], [(0, 3)], [(-1, 1)]]
        self.assert_same(
            [possible_readers(record) for record in records],
            [(4, 5), (1000000000000000000000000000002, None), (1, 1), None],
        )
        self.assert_same([obstruction(RECORD, readers) for readers in (3, 4, 6)], [("few", 5), None, ("many", 6)])
        self.assertIs(obstructs(RECORD, 3, ("few", 6)), True)
        self.assertIs(obstructs(RECORD, 3, ("few", 4)), False)


class SmallRecordsTest(Checks, unittest.TestCase):

    def test_obstruction_and_reached_states(self):
        for readers in (1, 2, 3, 4, 5, 6):
            for changes, layers in walks(readers, 6):
                record = runs_of(changes)
                self.assertIs(is_possible(record, readers), bool(layers[-1]))
                found = obstruction(record, readers)
                if layers[-1]:
                    self.assertIsNone(found)
                else:
                    number = layers.index(set())
                    word = {1: "single", 2: "two"}.get(readers, "many" if changes[number - 1] else "few")
                    self.assert_same(found, (word, number))

    def test_possible_readers_and_reached_states(self):
        # With six reads there is no bound beyond 7: at most 5 reads without a change for one with 1,
        # and at most 4 beside one with 1 and one with -1.
        possible = {}
        for readers in range(1, 9):
            for changes, _ in possible_walks(readers, 6):
                possible.setdefault(tuple(changes), []).append(readers)
        for length in range(7):
            for changes in lists_of((1, 0, -1), length):
                numbers = possible.get(tuple(changes), [])
                wanted = None
                if numbers:
                    self.assertEqual(numbers, list(range(numbers[0], numbers[-1] + 1)))
                    wanted = (numbers[0], None if numbers[-1] == 8 else numbers[-1])
                self.assert_same(possible_readers(runs_of(changes)), wanted)

    def test_obstructs_and_all_words(self):
        for length in range(6):
            for changes in lists_of((1, 0, -1), length):
                record = runs_of(changes)
                for readers in (1, 2, 3, 4, 6):
                    for word in WORDS:
                        for number in range(-1, length + 3):
                            totals = totals_at(record, number)
                            wanted = 1 <= number <= length and are_obstruction(readers, word, totals)
                            self.assertIs(obstructs(record, readers, (word, number)), wanted)
                            self.assertIs(obstructs(record, readers, [word, number]), wanted)


class NumbersOfReadersTest(Checks, unittest.TestCase):

    def test_record_without_runs(self):
        for empty in ([], ()):
            self.assert_same(possible_readers(empty), (1, None))
            for readers in (1, 2, 3, 200, MOST_READERS):
                self.assertIs(is_possible(empty, readers), True)
                self.assertIsNone(obstruction(empty, readers))
                for word in WORDS:
                    for number in (-1, 0, 1):
                        self.assertIs(obstructs(empty, readers, (word, number)), False)

    def test_one_and_two_readers(self):
        for record, one, two, wanted in (
            ([(0, MOST)], None, ("two", 1), (1, 1)),
            ([(1, 5)], ("single", 1), None, (2, None)),
            ([(1, 5), (-1, 5)], ("single", 1), None, (2, 2)),
            ([(1, 5), (-1, 6)], ("single", 1), ("two", 11), None),
            ([(0, 4), (1, 1)], ("single", 5), ("two", 1), None),
            ([(0, 4), (-1, 1)], ("single", 5), ("two", 1), None),
            ([(1, 2), (-1, 1), (1, 1), (0, 1)], ("single", 1), ("two", 5), None),
            ([(1, 2), (0, 1)], ("single", 1), ("two", 3), (3, None)),
            ([(1, MOST), (-1, MOST), (1, 1), (-1, 2)], ("single", 1), ("two", 2 * MOST + 3), None),
        ):
            self.assert_same([obstruction(record, 1), obstruction(record, 2)], [one, two])
            self.assert_same(possible_readers(record), wanted)

    def test_an_obstruction_may_end_again(self):
        record = [(1, 1), (-1, 2), (1, 5)]
        self.assert_same(obstruction(record, 2), ("two", 3))
        self.assertEqual([obstructs(record, 2, ("two", n)) for n in range(1, 9)], [False] * 2 + [True] + [False] * 5)
        record = [(1, 1), (0, 3), (1, 5)]
        self.assert_same(obstruction(record, 4), ("few", 4))
        self.assertEqual([obstructs(record, 4, ("few", n)) for n in range(1, 10)], [False] * 3 + [True] + [False] * 5)
        self.assertEqual(obstructs(record, 4, ("many", 4)), False)

    def test_greatest_and_least_bounds(self):
        self.assert_same(possible_readers([(1, 1), (0, 10 ** 29), (-1, 1)]), (10 ** 29 + 2, 10 ** 29 + 2))
        self.assert_same(possible_readers([(1, 1), (0, 10 ** 29), (-1, 2)]), None)
        self.assert_same(possible_readers([(1, 3), (0, 10 ** 29), (-1, 1)]), (10 ** 29 // 3 + 3, 10 ** 29 + 2))
        self.assert_same(possible_readers([(1, 2), (0, 5), (-1, 2)]), None)
        self.assert_same(possible_readers([(1, 2), (0, 4), (-1, 2)]), (4, 4))
        many = [(1, MOST), (0, MOST)] * 199 + [(1, MOST), (-1, 1)]
        self.assert_same(possible_readers(many), (3, 199 * MOST + 2))
        self.assertIsNone(obstruction(many, 199 * MOST + 2))
        self.assert_same(obstruction(many, 199 * MOST + 3), ("many", 399 * MOST + 1))

    def test_limits_of_the_number_of_readers(self):
        self.assert_same(obstruction(RECORD, MOST_READERS), ("many", 6))
        self.assertIs(is_possible(RECORD, MOST_READERS), False)
        self.assertIs(is_possible([(1, 1), (0, MOST)], MOST_READERS), True)
        self.assertIs(obstructs(RECORD, MOST_READERS, ("many", 6)), True)
        self.assertIs(obstructs(RECORD, MOST_READERS, ("many", 5)), False)
        self.assert_same(obstruction(RECORD, 1), ("single", 1))


class GreatRecordsTest(Checks, unittest.TestCase):

    def test_possible_readers(self):
        for record in great_records():
            bounds = possible_readers(record)
            near = {1, 2, 3, 4, 5, 7, 199, 200, 201, 10 ** 12, MOST, MOST_READERS}
            if bounds is not None:
                ends = [end for end in bounds if end is not None]
                near.update(end + step for end in ends for step in (-1, 0, 1) if end + step > 0)
            for readers in sorted(near):
                wanted = fits_at_all_ends(record, readers)
                self.assertIs(is_possible(record, readers), wanted)
                within = bounds is not None and bounds[0] <= readers and (bounds[1] is None or readers <= bounds[1])
                self.assertIs(within, wanted)

    def test_least_obstruction(self):
        for record in great_records():
            for readers in (1, 2, 3, 4, 5, 7, 100, 200, 10 ** 12 + 1, MOST_READERS):
                found = obstruction(record, readers)
                if found is None:
                    self.assertIs(fits_at_all_ends(record, readers), True)
                    continue
                word, number = found
                self.assertIs(are_obstruction(readers, word, totals_at(record, number)), True)
                before = first_reads(record, number - 1)
                self.assertIs(fits_at_all_ends(before, readers), True)
                self.assertIs(is_possible(before, readers), True)
                self.assert_same(obstruction(first_reads(record, number), readers), found)

    def test_obstructs(self):
        for record in great_records()[::6]:
            ends = ends_of(record)
            numbers = {end + step for end in ends[:5] + ends[150:153] + ends[-2:] for step in (-1, 0, 1, 12345)}
            for readers in (1, 2, 3, 4, 200, 10 ** 12, MOST_READERS):
                for number in sorted(numbers):
                    totals = totals_at(record, number)
                    for word in WORDS:
                        wanted = 1 <= number <= ends[-1] and are_obstruction(readers, word, totals)
                        self.assertIs(obstructs(record, readers, (word, number)), wanted)

    def test_totals_that_are_just_right(self):
        record = [(1, MOST), (0, MOST), (1, 7), (0, 7)]
        self.assertEqual(totals_at(record, 2 * MOST + 14), (MOST + 7, MOST + 7, 0))
        self.assertIsNone(obstruction(record, 3))
        self.assert_same(obstruction([*record[:3], (0, 8)], 3), ("few", 2 * MOST + 15))
        self.assertIsNone(obstruction([*record, (-1, MOST), (1, 1), (-1, 7)], 3))
        self.assert_same(obstruction([*record, (-1, MOST), (1, 1), (-1, 8)], 3), ("many", 3 * MOST + 23))


class ErrorsTest(Checks, unittest.TestCase):

    def test_wrong_records(self):
        for value in wrong_records():
            self.assert_raises_exactly(InvalidRecord, possible_readers, value)
            for readers in (1, 0, None):
                self.assert_raises_exactly(InvalidRecord, is_possible, value, readers)
                self.assert_raises_exactly(InvalidRecord, obstruction, value, readers)
                self.assert_raises_exactly(InvalidRecord, obstructs, value, readers, ("single", 1))

    def test_wrong_readers(self):
        for readers in [0, -1, MOST_READERS + 1, -MOST_READERS, 10 ** 5000, nested(20), *NOT_INTEGERS]:
            for record in (RECORD, [], [(-1, 1)]):
                self.assert_raises_exactly(InvalidReaders, is_possible, record, readers)
                self.assert_raises_exactly(InvalidReaders, obstruction, record, readers)
                for value in (("few", 5), None, Ellipsis):
                    self.assert_raises_exactly(InvalidReaders, obstructs, record, readers, value)

    def test_values_that_are_no_obstructions(self):
        wrong = [
            ("few",), (5,), ("few", 5, 5), ("few", 5, None), (5, "few"), ("few", "5"), ("few", 5 - 10 ** 39),
            ("few", 10 ** 5000), ("", 5), ("FEW", 5), ("few ", 5), (b"few", 5), ("fe", 5), ("w", 5), (("few",), 5),
            (["few"], 5), ("few", [5]), ("few", (5,)), [["few", 5]], (("few", 5),), "fe", "few", {"few": 5, 5: 6},
            {"few", 5}, nested(20), ("few", nested(19)), (nested(19), 5), 5, *NOT_LISTS, (), [],
        ]
        wrong.extend(("few", item) for item in NOT_INTEGERS)
        wrong.extend((item, 5) for item in NOT_INTEGERS if item != "few")
        self.assertIs(obstructs(RECORD, 3, ("few", 5)), True)
        for value in wrong:
            for one in (value, list(value) if isinstance(value, tuple) else value):
                self.assertIs(obstructs(RECORD, 3, one), False)
                self.assertIs(obstructs([], 3, one), False)

    def test_true_is_no_number_of_reads(self):
        self.assertIs(obstructs([(1, 1)], 1, ("single", 1)), True)
        self.assertIs(obstructs([(1, 1)], 1, ("single", True)), False)


if __name__ == "__main__":
    unittest.main()
