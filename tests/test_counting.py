"""[17]: how many lists of ranks and histories have a record, and which lists."""

import inspect
import unittest
from itertools import islice
from random import Random

from teesizes.counting import all_ranks, count_histories, count_ranks, nth_ranks, ranks_index
from teesizes.errors import InvalidNumber, InvalidRanks, InvalidReaders, InvalidRecord, TooLong
from teesizes.histories import history_by, is_ranks, record_of
from teesizes.possible import is_possible
from tests.helper import (
    Checks, NOT_INTEGERS, NOT_LISTS, lists_of, nested, raised, runs_of, steps, wrong_records, zigzag,
)
from tests.walks import changes_of, reads_of, records_to_walk

RECORD = [(1, 2), (0, 3), (-1, 1)]
LISTS = [[0, 0, 1, 1, 2, 3], [0, 0, 1, 2, 1, 3]]
# 60 reads of up to six readers, in many ways.
GREAT = [
    (6, [(1, 15), (0, 45)]), (6, [(1, 12), (0, 40), (-1, 8)]), (6, [(1, 4), (0, 10), (-1, 1)] * 4),
    (6, [(1, 1), (0, 4), (-1, 1)] * 10), (5, [(1, 20), (0, 39), (1, 1)]), (5, [(1, 10), (0, 30), (-1, 10), (1, 10)]),
    (4, [(1, 20), (0, 40)]), (3, [(1, 30), (0, 30)]), (2, [(1, 30), (-1, 30)]), (1, [(0, 60)]),
]


def listed(record, readers):
    """Return all lists of ranks that the generator yields."""
    return list(all_ranks(record, readers))


def first_list(record, readers):
    """Return the first list of ranks that the generator yields."""
    return next(all_ranks(record, readers))


def histories_by_changes(readers, length):
    """Return how many histories have each list of ranks, for each list of changes."""
    found = {}
    for history in lists_of(range(readers), length):
        _, ranks, sizes = steps(readers, history)
        changes = tuple(after - before for before, after in zip(sizes, sizes[1:]))
        counts = found.setdefault(changes, {})
        counts[tuple(ranks)] = counts.get(tuple(ranks), 0) + 1
    return found


def ranks_by_walking(readers, changes):
    """Return the lists of ranks with these changes, read by read, as [5] and [6] say."""
    paths = [([], (0,) * readers)]
    for change in changes:
        paths = [([*ranks, rank], after) for ranks, state in paths
                 for rank, one, after in reads_of(state) if one == change]
    return sorted(ranks for ranks, _ in paths)


def counts_by_walking(readers, changes):
    """Return the numbers of lists of ranks and of histories with these changes, counted read by read."""
    lists, histories = {(0,) * readers: 1}, {(0,) * readers: 1}
    for change in changes:
        links = [(state, rank, after) for state in lists for rank, one, after in reads_of(state) if one == change]
        lists_after, histories_after = {}, {}
        for state, rank, after in links:
            lists_after[after] = lists_after.get(after, 0) + lists[state]
            choices = sum(1 for position in state if position == state[rank])
            histories_after[after] = histories_after.get(after, 0) + histories[state] * choices
        lists, histories = lists_after, histories_after
    return sum(lists.values()), sum(histories.values())


class ExamplesTest(Checks, unittest.TestCase):

    def test_examples(self):
        self.assert_same([count_ranks(RECORD, 4), list(all_ranks(RECORD, 4))], [2, LISTS])
        self.assert_same([count_histories(RECORD, 4), count_histories(RECORD, 3)], [72, 0])


class SmallRecordsTest(Checks, unittest.TestCase):

    def check(self, record, readers, wanted):
        self.assert_same(count_ranks(record, readers), len(wanted))
        self.assert_same(listed(record, readers), wanted)
        for index, ranks in enumerate(wanted):
            self.assert_same(nth_ranks(record, readers, index), ranks)
            self.assert_same(ranks_index(record, readers, ranks), index)
        self.assert_raises_exactly(InvalidNumber, nth_ranks, record, readers, len(wanted))
        self.assert_raises_exactly(InvalidNumber, nth_ranks, record, readers, -1)

    def test_all_records(self):
        for readers, most in ((1, 5), (2, 6), (3, 6), (4, 6), (5, 5), (6, 5)):
            for length in range(most + 1):
                found = histories_by_changes(readers, length)
                for changes in lists_of((1, 0, -1), length):
                    counts = found.get(tuple(changes), {})
                    record = runs_of(changes)
                    self.check(record, readers, sorted(list(ranks) for ranks in counts))
                    self.assert_same(count_histories(record, readers), sum(counts.values()))

    def test_longer_records(self):
        for readers in (3, 4, 5, 6):
            many = 0
            for record in records_to_walk(readers, 14, readers, 30):
                wanted = ranks_by_walking(readers, changes_of(record))
                self.check(record, readers, wanted)
                many = max(many, len(wanted))
            self.assertGreater(many, 20 if readers > 3 else 0)

    def test_records_that_are_not_possible(self):
        for record, readers in (
            (RECORD, 1), (RECORD, 2), (RECORD, 3), (RECORD, 6), ([(-1, 1)], 2), ([(0, 1)], 2), ([(0, 1)], 6),
            ([(1, 30), (0, 29), (-1, 1)], 2), ([(1, 1), (0, 3), (-1, 2)], 5), ([(1, 15), (0, 43), (-1, 1), (1, 1)], 1),
            ([(-1, 60)], 4), ([(1, 1), (0, 59)], 6),
        ):
            self.assertIs(is_possible(record, readers), False)
            self.check(record, readers, [])
            self.assert_same(count_histories(record, readers), 0)
            for ranks in ([], [0] * 6, LISTS[0]):
                self.assert_raises_exactly(InvalidRanks, ranks_index, record, readers, ranks)

    def test_the_last_read_makes_it_impossible(self):
        # All the first reads can be made in very many ways, and none of them can be finished.
        record = [(1, 13), (0, 45), (-1, 2)]
        self.assertGreater(count_ranks(record, 6), 10 ** 15)
        record = [(1, 12), (0, 36), (-1, 10)]
        self.assertIs(is_possible(record, 6), False)
        self.check(record, 6, [])

    def test_empty_record(self):
        for readers in range(1, 7):
            for empty in ([], ()):
                self.check(empty, readers, [[]])
                self.assert_same(count_histories(empty, readers), 1)

    def test_one_reader(self):
        for reads in (1, 7, 60):
            self.check([(0, reads)], 1, [[0] * reads])
            self.assert_same(count_histories([(0, reads)], 1), 1)

    def test_two_readers(self):
        self.check([(1, 3), (-1, 2), (1, 1)], 2, [[0, 0, 0, 1, 1, 0]])
        # Where both are at the same position, either of them can read.
        self.assert_same(count_histories([(1, 1), (-1, 1)] * 30, 2), 2 ** 30)


class GreatRecordsTest(Checks, unittest.TestCase):

    def test_numbers_of_60_reads(self):
        for readers, record in GREAT:
            changes = changes_of(record)
            self.assertEqual(len(changes), 60)
            lists, histories = counts_by_walking(readers, changes)
            self.assertGreater(lists, 0)
            self.assert_same(count_ranks(record, readers), lists)
            self.assert_same(count_histories(record, readers), histories)
        self.assertGreater(count_ranks(GREAT[0][1], 6), 10 ** 20)
        self.assertEqual(count_ranks([(1, 30), (0, 30)], 3), 1)

    def test_lists_with_an_index(self):
        random = Random(17)
        for readers, record in GREAT:
            count = count_ranks(record, readers)
            before = None
            for index in sorted({0, count // 3, count // 2, count - 1, *[random.randrange(count) for _ in range(6)]}):
                ranks = nth_ranks(record, readers, index)
                self.assertEqual(ranks_index(record, readers, ranks), index)
                self.assertIs(is_ranks(readers, ranks), True)
                self.assertEqual(record_of(readers, history_by(readers, ranks)), record)
                self.assertTrue(before is None or before < ranks)
                before = ranks
                if index + 1 < count:
                    after = nth_ranks(record, readers, index + 1)
                    self.assertLess(ranks, after)
                    self.assertEqual(ranks_index(record, readers, after), index + 1)
            for wrong in (count, count + 1, -1, 10 ** 5000, -(10 ** 5000)):
                self.assert_raises_exactly(InvalidNumber, nth_ranks, record, readers, wrong)

    def test_first_lists(self):
        for readers, record in GREAT:
            many = min(40, count_ranks(record, readers))
            found = list(islice(all_ranks(record, readers), many))
            self.assert_same(found, [nth_ranks(record, readers, index) for index in range(many)])
        self.assert_same(first_list([(1, 15), (0, 45)], 6), [0] * 15 + [1] * 15 + [2] * 15 + [3] * 15)

    def test_first_list_where_most_beginnings_fail(self):
        # The middle readers must wait for the last one, so the smallest ranks lead nowhere.
        record = [(1, 12), (0, 37), (-1, 9), (1, 1), (0, 1)]
        self.assert_same(first_list(record, 6), nth_ranks(record, 6, 0))
        self.assertEqual(record_of(6, history_by(6, first_list(record, 6))), record)

    def test_61_reads(self):
        for record, length in (
            ([(1, 30), (0, 31)], 61), ([(0, 61)], 61), ([(-1, 61)], 61), (zigzag(61, 1), 61),
            ([(1, 10 ** 30)], 10 ** 30), (zigzag(400, 10 ** 30), 400 * 10 ** 30),
        ):
            for readers in (1, 3, 6):
                for function, *more in (
                    (count_ranks,), (count_histories,), (listed,), (first_list,), (nth_ranks, 0), (nth_ranks, None),
                    (ranks_index, []), (ranks_index, None),
                ):
                    error = self.assert_raises_exactly(TooLong, function, record, readers, *more)
                    self.assert_same(error.length, length)

    def test_60_reads_are_not_too_long(self):
        for record in ([(0, 60)], [(1, 60)], zigzag(60, 1)):
            for readers in range(1, 7):
                self.assertEqual(count_ranks(record, readers) > 0, is_possible(record, readers))


class GeneratorTest(Checks, unittest.TestCase):

    def test_it_is_a_generator(self):
        self.assertTrue(inspect.isgenerator(all_ranks(RECORD, 4)))
        self.assertTrue(inspect.isgeneratorfunction(all_ranks))

    def test_lists_are_new(self):
        found = []
        for ranks in all_ranks(RECORD, 4):
            found.append(list(ranks))
            ranks[:] = ["other"] * 9
        self.assert_same(found, LISTS)
        lists = listed(RECORD, 4)
        self.assertIsNot(lists[0], lists[1])

    def test_generators_are_independent(self):
        record = GREAT[0][1]
        first, second = all_ranks(record, 6), all_ranks(record, 6)
        self.assertEqual([next(first) for _ in range(5)], [next(second) for _ in range(5)])
        self.assertEqual(next(first), nth_ranks(record, 6, 5))
        self.assertEqual(next(second), nth_ranks(record, 6, 5))

    def test_errors_before_the_first_item(self):
        for kind, record, readers in (
            (InvalidRecord, None, 4), (InvalidRecord, [(0, 0)], None), (InvalidReaders, RECORD, 7),
            (InvalidReaders, [(0, 61)], 0), (TooLong, [(0, 61)], 1),
        ):
            self.assert_raises_exactly(kind, first_list, record, readers)

    def test_it_ends(self):
        found = all_ranks(RECORD, 4)
        self.assertEqual([next(found), next(found)], LISTS)
        self.assertIs(type(raised(next, found)), StopIteration)


class ErrorsTest(Checks, unittest.TestCase):

    CALLS = [
        (count_ranks,), (count_histories,), (listed,), (first_list,), (nth_ranks, 0), (nth_ranks, -1),
        (nth_ranks, None), (ranks_index, LISTS[0]), (ranks_index, None),
    ]

    def test_wrong_records(self):
        for record in wrong_records():
            for function, *more in self.CALLS:
                for readers in (4, 0, None):
                    self.assert_raises_exactly(InvalidRecord, function, record, readers, *more)

    def test_wrong_readers(self):
        for readers in [0, 7, -1, 200, 10 ** 39, 10 ** 5000, nested(20), *NOT_INTEGERS]:
            for function, *more in self.CALLS:
                for record in (RECORD, [], [(0, 61)], [(-1, 10 ** 30)]):
                    self.assert_raises_exactly(InvalidReaders, function, record, readers, *more)

    def test_wrong_indices(self):
        for record, readers, count in ((RECORD, 4, 2), ([], 6, 1), ([(0, 5)], 1, 1), (RECORD, 3, 0), (RECORD, 5, 1)):
            self.assertEqual(count_ranks(record, readers), count)
            for index in [count, count + 1, -1, -2, 10 ** 39, 10 ** 5000, -(10 ** 5000), nested(20), *NOT_INTEGERS]:
                self.assert_raises_exactly(InvalidNumber, nth_ranks, record, readers, index)
            for index in range(count):
                self.assertEqual(nth_ranks(record, readers, index), listed(record, readers)[index])

    def test_wrong_ranks(self):
        wrong = [
            [], [0, 0, 1, 1, 2], [0, 0, 1, 1, 2, 3, 0], [0, 0, 1, 1, 1, 3], [0, 0, 1, 1, 2, 2], [0, 0, 2, 1, 1, 3],
            [0, 1, 0, 1, 2, 3], [0, 0, 0, 1, 2, 3], [0, 0, 1, 1, 2, 4], [0, 0, 1, 1, 2, -1], [0, 0, 1, 1, 3, 2],
            [0, 1, 2, 3], "001123", [LISTS[0]], [0] * 400, [0] * 401, nested(20), *NOT_LISTS,
        ]
        for ranks in wrong:
            self.assert_raises_exactly(InvalidRanks, ranks_index, RECORD, 4, ranks)
        for item in [10 ** 40, 10 ** 5000, -(10 ** 5000), *NOT_INTEGERS]:
            for at in range(6):
                for ranks in LISTS:
                    changed = [*ranks[:at], item, *ranks[at + 1:]]
                    self.assert_raises_exactly(InvalidRanks, ranks_index, RECORD, 4, changed)
                    self.assert_raises_exactly(InvalidRanks, ranks_index, RECORD, 4, tuple(changed))

    def test_ranks_with_another_record(self):
        for readers, reads in ((2, 5), (3, 5), (4, 5)):
            for ranks in lists_of(range(readers), reads):
                if is_ranks(readers, ranks):
                    record = record_of(readers, history_by(readers, ranks))
                    self.assertEqual(nth_ranks(record, readers, ranks_index(record, readers, ranks)), ranks)
                    for other in ([], [(1, 5)], [(1, 1), (0, 4)], [*record, (-record[-1][0] or 1, 1)]):
                        if other != record:
                            self.assert_raises_exactly(InvalidRanks, ranks_index, other, readers, ranks)


if __name__ == "__main__":
    unittest.main()
