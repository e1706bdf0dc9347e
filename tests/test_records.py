"""[7] and [12]: records."""

import unittest

from teesizes.errors import InvalidChanges, InvalidNumber, InvalidRecord, TooLong
from teesizes.records import changes_by, count_reads, is_record, joined, record_by, totals_after
from tests.helper import (
    Checks, NOT_INTEGERS, NOT_LISTS, lists_of, nested, runs_of, wrong_records, zigzag,
)

MOST = 10 ** 30
RECORD = [(1, 2), (0, 3), (-1, 1)]


class ExamplesTest(Checks, unittest.TestCase):

    def test_examples(self):
        self.assert_same(record_by([1, 1, 0, 0, 0, -1]), [(1, 2), (0, 3), (-1, 1)])
        self.assert_same(totals_after([(1, 2), (0, 3), (-1, 1)], 4), (2, 2, 0))
        self.assert_same([joined([(1, 1)], [(1, 1), (0, 2)]), joined()], [[(1, 2), (0, 2)], []])


class RecordTest(Checks, unittest.TestCase):

    def test_is_record(self):
        for value in [
            [], (), [(1, 1)], [[1, 1]], ((0, 1),), ([0, 1],), [(-1, 1)], [(1, MOST)], RECORD, [(1, 2), [0, 3], (-1, 1)],
            zigzag(400, 1), zigzag(400, MOST), tuple(zigzag(400, MOST)), [(0, 1), (-1, 1), (0, 1), (1, 1), (-1, 7)],
        ]:
            self.assertIs(is_record(value), True)

    def test_counts(self):
        for change in (1, 0, -1):
            for count, wanted in ((0, False), (1, True), (MOST, True), (MOST + 1, False), (-1, False)):
                other = (0, 1) if change else (1, 1)
                for run in ((change, count), [change, count]):
                    self.assertIs(is_record([run]), wanted)
                    self.assertIs(is_record([other, run]), wanted)
                    self.assertIs(is_record((run, other)), wanted)

    def test_wrong_records(self):
        for value in wrong_records():
            self.assertIs(is_record(value), False)
            self.assert_raises_exactly(InvalidRecord, changes_by, value)
            self.assert_raises_exactly(InvalidRecord, count_reads, value)
            self.assert_raises_exactly(InvalidRecord, joined, value)
            self.assert_raises_exactly(InvalidRecord, joined, [], RECORD, value)
            self.assert_raises_exactly(InvalidRecord, joined, value, [(1, MOST)], [(1, MOST)])
            for number in (0, -1, None):
                self.assert_raises_exactly(InvalidRecord, totals_after, value, number)


class ChangesTest(Checks, unittest.TestCase):

    def test_both_ways(self):
        for length in range(7):
            for changes in lists_of((1, 0, -1), length):
                record = record_by(changes)
                self.assertIs(is_record(record), True)
                self.assert_same(record, runs_of(changes))
                self.assert_same(changes_by(record), changes)
        for record in (RECORD, zigzag(400, 1), zigzag(9, 40)):
            self.assert_same(record_by(changes_by(record)), record)

    def test_400_and_401_changes(self):
        self.assert_same(record_by([0] * 400), [(0, 400)])
        self.assert_same(record_by([1, -1] * 200), [(1, 1), (-1, 1)] * 200)
        for changes in ([0] * 401, [1, -1] * 200 + [1], (0,) * 401):
            self.assert_raises_exactly(InvalidChanges, record_by, changes)

    def test_wrong_changes(self):
        for value in [*NOT_LISTS, nested(20)]:
            self.assert_raises_exactly(InvalidChanges, record_by, value)
        for item in [2, -2, 10 ** 40, -(10 ** 5000), *NOT_INTEGERS]:
            for changes in ([item, 0, 1], [1, item, -1], [0, 0, item], (0, item)):
                self.assert_raises_exactly(InvalidChanges, record_by, changes)

    def test_2000_and_2001_reads(self):
        self.assert_same(changes_by([(0, 2000)]), [0] * 2000)
        self.assert_same(changes_by(zigzag(400, 5))[:11], [1] * 5 + [0] * 5 + [-1])
        self.assertEqual(len(changes_by([(1, 1999), (-1, 1)])), 2000)
        for record, length in (
            ([(0, 2001)], 2001), ([(1, 2000), (-1, 1)], 2001), ([(-1, MOST)], MOST), (zigzag(400, MOST), 400 * MOST),
        ):
            self.assertEqual(self.assert_raises_exactly(TooLong, changes_by, record).length, length)


class TotalsTest(Checks, unittest.TestCase):

    def test_count_reads(self):
        for record, wanted in (([], 0), (RECORD, 6), ([(0, MOST)], MOST), (zigzag(400, MOST), 400 * MOST)):
            self.assert_same(count_reads(record), wanted)

    def test_small_totals(self):
        for record in ([], RECORD, [(0, 5)], [(-1, 2), (1, 3), (-1, 1), (0, 2), (1, 1), (0, 1)]):
            changes = changes_by(record)
            for number in range(len(changes) + 1):
                first = changes[:number]
                self.assert_same(totals_after(record, number), (first.count(1), first.count(0), first.count(-1)))

    def test_totals_beside_the_ends_of_runs(self):
        record = [(1, MOST), (0, 7), (1, 5), (-1, MOST)]
        for number, wanted in (
            (0, (0, 0, 0)), (1, (1, 0, 0)), (MOST - 1, (MOST - 1, 0, 0)), (MOST, (MOST, 0, 0)),
            (MOST + 1, (MOST, 1, 0)), (MOST + 7, (MOST, 7, 0)), (MOST + 8, (MOST + 1, 7, 0)),
            (MOST + 12, (MOST + 5, 7, 0)), (MOST + 13, (MOST + 5, 7, 1)),
            (2 * MOST + 11, (MOST + 5, 7, MOST - 1)), (2 * MOST + 12, (MOST + 5, 7, MOST)),
        ):
            self.assert_same(totals_after(record, number), wanted)

    def test_all_reads_of_the_longest_record(self):
        record = zigzag(400, MOST)
        self.assertEqual(totals_after(record, 400 * MOST), (134 * MOST, 133 * MOST, 133 * MOST))

    def test_wrong_numbers(self):
        for record, reads in (([], 0), (RECORD, 6), ([(0, MOST)], MOST), (zigzag(400, MOST), 400 * MOST)):
            for number in [-1, reads + 1, 10 ** 39, -(10 ** 39), 10 ** 5000, *NOT_INTEGERS]:
                self.assert_raises_exactly(InvalidNumber, totals_after, record, number)


class JoinedTest(Checks, unittest.TestCase):

    def test_empty_records(self):
        self.assert_same(joined([]), [])
        self.assert_same(joined((), [], ()), [])
        self.assert_same(joined([], RECORD, []), RECORD)
        self.assert_same(joined([(1, 1)], [], [(1, 2)]), [(1, 3)])

    def test_changes_of_joined_records(self):
        parts = [record_by(changes) for length in (0, 1, 2, 3) for changes in lists_of((1, 0, -1), length)]
        for first in parts:
            self.assert_same(joined(first), first)
            for second in parts:
                found = joined(first, second)
                self.assertIs(is_record(found), True)
                self.assert_same(changes_by(found), changes_by(first) + changes_by(second))

    def test_many_runs_become_one(self):
        self.assert_same(joined(*[[(0, 2)]] * 12), [(0, 24)])
        self.assert_same(joined([(1, 1), (0, 2)], [[0, 3]], ((0, 4), (1, 1))), [(1, 1), (0, 9), (1, 1)])

    def test_counts_that_are_too_great(self):
        half = MOST // 2
        self.assert_same(joined([(1, half)], [(1, half)]), [(1, MOST)])
        self.assert_same(joined([(1, MOST)], [(0, MOST)]), [(1, MOST), (0, MOST)])
        for records, length in (
            ([[(1, MOST)], [(1, 1)]], MOST + 1),
            ([[(1, half)], [(1, half + 1)]], MOST + 1),
            ([[(0, MOST)]] * 12, 12 * MOST),
            ([[(1, MOST)], [(1, 1), (0, MOST)], [(0, MOST)]], MOST + 1),
            ([[(1, MOST), (0, MOST)], [(0, 9)], [(-1, 3), (0, MOST)], [(0, 8)]], MOST + 9),
        ):
            self.assertEqual(self.assert_raises_exactly(TooLong, joined, *records).length, length)

    def test_400_and_401_runs(self):
        record = zigzag(400, 1)
        self.assert_same(joined(record[:150], record[150:]), record)
        self.assert_same(joined(record, [(1, 1)]), [*record[:399], (1, 2)])
        self.assert_same(joined(record, [(1, MOST - 1)]), [*record[:399], (1, MOST)])
        for more, length in (([(0, 1)], 401), ([(1, 1), (0, 1)], 401), (record[1:], 799), (record, 799)):
            self.assertEqual(self.assert_raises_exactly(TooLong, joined, record, more).length, length)

    def test_count_before_number_of_runs(self):
        record = zigzag(400, 1)
        self.assertEqual(self.assert_raises_exactly(TooLong, joined, record, [(1, MOST), (0, 1)]).length, MOST + 1)
        last = [(0, 1), (1, MOST)]
        self.assertEqual(self.assert_raises_exactly(TooLong, joined, record, last, [(1, 2)]).length, MOST + 2)

    def test_record_before_limits(self):
        self.assert_raises_exactly(InvalidRecord, joined, zigzag(400, 1), zigzag(400, 1), [(1, 0)])


if __name__ == "__main__":
    unittest.main()
