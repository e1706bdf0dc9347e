"""[2] and [3]: what holds for every function, and where the interface defines it."""

import copy
import importlib
import unittest

from teesizes import histories, records
from teesizes.errors import InvalidChanges, InvalidHistory, InvalidNumber, InvalidRanks, InvalidReaders, TooLong
from teesizes.histories import count_words, history_by, is_history, is_ranks, positions_after, ranks_of, record_of
from teesizes.records import changes_by, count_reads, is_record, joined, record_by, totals_after
from tests.helper import Checks, as_lists, as_tuples

INTERFACE = {
    "teesizes.histories": [
        "is_history", "positions_after", "ranks_of", "record_of", "greatest_size", "is_ranks", "history_by",
        "count_words",
    ],
    "teesizes.records": ["is_record", "record_by", "changes_by", "count_reads", "totals_after", "joined"],
}

HISTORY = [0, 0, 1, 2, 1, 3]
RANKS = [0, 0, 1, 2, 1, 3]
RECORD = [(1, 2), (0, 3), (-1, 1)]

# Two calls for each function: the second one has the same shape and another answer.
CALLS = [
    (histories.is_history, [4, HISTORY], [4, [0, 0, 1, 2, 1, 4]]),
    (histories.positions_after, [4, HISTORY], [4, [3, 2, 2, 2, 1, 3]]),
    (histories.ranks_of, [4, HISTORY], [4, [3, 2, 2, 2, 1, 3]]),
    (histories.record_of, [4, HISTORY], [4, [3, 2, 2, 2, 1, 3]]),
    (histories.greatest_size, [4, HISTORY], [4, [3, 2, 2, 2, 1, 3]]),
    (histories.is_ranks, [4, RANKS], [4, [0, 0, 1, 2, 2, 3]]),
    (histories.history_by, [4, RANKS], [4, [0, 1, 2, 3, 0, 0]]),
    (histories.count_words, [[2, 2, 1, 1]], [[5, 2, 1, 1]]),
    (records.is_record, [RECORD], [[(1, 2), (0, 3), (0, 1)]]),
    (records.record_by, [[1, 1, 0, 0, 0, -1]], [[1, 1, 0, 1, 0, -1]]),
    (records.changes_by, [RECORD], [[(1, 1), (0, 4), (1, 2)]]),
    (records.count_reads, [RECORD], [[(1, 1), (0, 4), (1, 2)]]),
    (records.totals_after, [RECORD, 4], [[(1, 1), (0, 4), (1, 2)], 4]),
    (records.joined, [RECORD, [(-1, 5), (1, 1)]], [[(1, 1), (0, 4), (1, 2)], [(1, 5), (0, 1)]]),
]


def spoil(value):
    """Change every list in a value."""
    if isinstance(value, (list, tuple)):
        for item in value:
            spoil(item)
    if isinstance(value, list):
        value.append("more")
        value[0] = "other"


class InterfaceTest(unittest.TestCase):

    def test_functions_are_defined_in_their_files(self):
        for module, names in INTERFACE.items():
            for name in names:
                self.assertEqual(getattr(importlib.import_module(module), name).__module__, module)

    def test_every_function_is_called_here(self):
        called = sorted(function.__name__ for function, _, _ in CALLS)
        self.assertEqual(called, sorted(name for names in INTERFACE.values() for name in names))


class ArgumentsTest(Checks, unittest.TestCase):

    def test_lists_and_tuples(self):
        for function, *both in CALLS:
            for arguments in both:
                wanted = function(*arguments)
                self.assert_same(function(*as_tuples(arguments)), wanted)
                self.assert_same(function(*as_lists(arguments)), wanted)

    def test_arguments_are_not_changed(self):
        for function, *both in CALLS:
            for arguments in both:
                for passed in (arguments, as_lists(arguments)):
                    before = copy.deepcopy(passed)
                    function(*passed)
                    self.assert_same(passed, before)

    def test_arguments_are_read_anew(self):
        for function, first, second in CALLS:
            passed = as_lists(first)
            before = copy.deepcopy(function(*passed))
            wanted = function(*second)
            self.assertNotEqual(before, wanted)
            for old, new in zip(passed, as_lists(second)):
                if isinstance(old, list):
                    old[:] = new
            self.assert_same(function(*passed), wanted)

    def test_inner_lists_are_read_anew(self):
        record = [[1, 2], [0, 3], [-1, 1]]
        self.assertEqual(count_reads(record), 6)
        record[1][1] = 30
        self.assertEqual(count_reads(record), 33)
        record[1][0] = 1
        self.assertIs(is_record(record), False)

    def test_true_and_false_are_no_integers(self):
        for flag in (True, False):
            self.assertIs(is_history(2, [0, flag]), False)
            self.assertIs(is_ranks(2, [0, flag]), False)
            self.assertIs(is_record([(flag, 1)]), False)
            self.assertIs(is_record([(0, 1), (1, flag)]), False)
            self.assert_raises_exactly(InvalidReaders, is_history, flag, [])
            self.assert_raises_exactly(InvalidHistory, positions_after, 2, [flag])
            self.assert_raises_exactly(InvalidRanks, history_by, 2, [flag])
            self.assert_raises_exactly(InvalidChanges, record_by, [flag])
            self.assert_raises_exactly(InvalidNumber, totals_after, RECORD, flag)


class ResultsTest(Checks, unittest.TestCase):

    def test_results_belong_to_the_caller(self):
        for function, *both in CALLS:
            for arguments in both:
                for passed in (arguments, as_lists(arguments)):
                    before = copy.deepcopy(passed)
                    result = function(*passed)
                    wanted = copy.deepcopy(result)
                    spoil(result)
                    self.assert_same(passed, before)
                    self.assert_same(function(*passed), wanted)

    def test_results_may_be_passed_again(self):
        history = [0, 1] * 200
        record = record_of(2, history)
        self.assertEqual(len(record), 400)
        self.assert_same(record_by(changes_by(record)), record)
        self.assert_same(joined(record), record)
        self.assertEqual(history_by(2, ranks_of(2, history)), history)
        self.assertEqual(positions_after(2, history_by(2, ranks_of(2, history))), [200, 200])
        great = joined([(1, 10 ** 30), (0, 10 ** 30)], [(-1, 10 ** 30)])
        self.assertEqual(totals_after(great, count_reads(great)), (10 ** 30,) * 3)

    def test_great_results_may_be_passed_again(self):
        words = count_words([20] * 20)
        self.assertGreater(words, 10 ** 300)
        self.assertIs(is_history(2, [words]), False)
        self.assertIs(is_ranks(2, [words]), False)
        self.assertIs(is_record([(1, words)]), False)
        self.assert_raises_exactly(InvalidReaders, is_history, words, [])
        self.assert_raises_exactly(InvalidNumber, totals_after, RECORD, words)
        changes = changes_by([(1, 1000), (0, 1000)])
        self.assert_raises_exactly(InvalidChanges, record_by, changes)
        self.assertIs(is_history(2, changes), False)

    def test_longest_sum_may_be_passed_again(self):
        record = [(at - at // 2 * 2, 10 ** 30) for at in range(400)]
        reads = count_reads(record)
        self.assertEqual(totals_after(record, reads), (200 * 10 ** 30, 200 * 10 ** 30, 0))
        totals = totals_after(record, reads)
        self.assertEqual(self.assert_raises_exactly(TooLong, count_words, totals).length, reads)


if __name__ == "__main__":
    unittest.main()
