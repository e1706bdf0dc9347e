"""[2] and [3]: what holds for every function, and where the interface defines it."""

import copy
import importlib
import types
import unittest

from teesizes import counting, histories, possible, ranges, records, states, texts
from teesizes.console import Console
from teesizes.counting import count_histories, count_ranks, nth_ranks, ranks_index
from teesizes.errors import (
    Impossible, InvalidChanges, InvalidHistory, InvalidNumber, InvalidRank, InvalidRanks, InvalidReaders, InvalidRecord,
    InvalidState, TooLong,
)
from teesizes.histories import count_words, history_by, is_history, is_ranks, positions_after, ranks_of, record_of
from teesizes.live import LimitedSource, Source
from teesizes.possible import is_possible, obstruction, obstructs, possible_readers
from teesizes.ranges import position_range, possible_ranks
from teesizes.records import changes_by, count_reads, is_record, joined, record_by, totals_after
from teesizes.states import even_state, fits, misfit
from teesizes.texts import format_record, format_state, parse_record, parse_state
from tests.helper import Checks, as_lists, as_tuples

INTERFACE = {
    "teesizes.histories": [
        "is_history", "positions_after", "ranks_of", "record_of", "greatest_size", "is_ranks", "history_by",
        "count_words",
    ],
    "teesizes.records": ["is_record", "record_by", "changes_by", "count_reads", "totals_after", "joined"],
    "teesizes.possible": ["possible_readers", "is_possible", "obstruction", "obstructs"],
    "teesizes.states": ["even_state", "fits", "misfit"],
    "teesizes.ranges": ["position_range", "possible_ranks"],
    "teesizes.counting": ["count_ranks", "all_ranks", "nth_ranks", "ranks_index", "count_histories"],
    "teesizes.texts": ["format_record", "format_state", "parse_record", "parse_state"],
}

# The methods that each class has in its own body, by their kind.
METHODS = {
    Source: {
        "plain": [
            "__init__", "read_item", "undo", "position_of", "rank_of", "names_in_order", "current_history",
            "current_record", "duplicate", "__len__", "__eq__",
        ],
        "property": ["size", "is_even"],
        "classmethod": ["from_history"],
    },
    LimitedSource: {
        "plain": ["__init__", "read_item", "duplicate", "__eq__"],
        "property": ["limit"],
        "classmethod": ["with_names", "from_history"],
    },
    Console: {"plain": ["__init__", "execute"], "property": [], "classmethod": ["with_names"]},
}
KINDS = {"plain": types.FunctionType, "property": property, "classmethod": classmethod}

HISTORY = [0, 0, 1, 2, 1, 3]
RANKS = [0, 0, 1, 2, 1, 3]
RECORD = [(1, 2), (0, 3), (-1, 1)]


def all_ranks(record, readers):
    """Return the list of what the generator yields."""
    return list(counting.all_ranks(record, readers))


# Two calls for each function: the second one has the same shape and another answer.
CALLS = [
    (histories.is_history, [4, HISTORY], [4, [0, 0, 1, 2, 1, 4]]),
    (histories.positions_after, [4, HISTORY], [4, [3, 2, 2, 2, 1, 3]]),
    (histories.ranks_of, [4, HISTORY], [4, [3, 2, 2, 2, 1, 3]]),
    (histories.record_of, [4, HISTORY], [4, [3, 2, 2, 2, 1, 3]]),
    (histories.greatest_size, [4, HISTORY], [4, [3, 2, 2, 2, 1, 3]]),
    (histories.is_ranks, [4, RANKS], [4, [0, 0, 1, 2, 2, 3]]),
    (histories.history_by, [4, RANKS], [4, [0, 1, 2, 3, 0, 0]]),
    (histories.count_words, [[2, 2, 1, 1]], [[5, 2, 1, 1]]),
    (records.is_record, [RECORD], [[(1, 2), (0, 3), (0, 1)]]),
    (records.record_by, [[1, 1, 0, 0, 0, -1]], [[1, 1, 0, 1, 0, -1]]),
    (records.changes_by, [RECORD], [[(1, 1), (0, 4), (1, 2)]]),
    (records.count_reads, [RECORD], [[(1, 1), (0, 4), (1, 2)]]),
    (records.totals_after, [RECORD, 4], [[(1, 1), (0, 4), (1, 2)], 4]),
    (records.joined, [RECORD, [(-1, 5), (1, 1)]], [[(1, 1), (0, 4), (1, 2)], [(1, 5), (0, 1)]]),
    (possible.possible_readers, [RECORD], [[(1, 1), (0, 4), (1, 2)]]),
    (possible.is_possible, [RECORD, 5], [[(1, 1), (0, 4), (1, 2)], 5]),
    (possible.obstruction, [RECORD, 3], [[(1, 1), (0, 4), (1, 2)], 3]),
    (possible.obstructs, [RECORD, 3, ("few", 6)], [RECORD, 3, ("few", 4)]),
    (states.even_state, [RECORD, 4], [[(1, 2), (0, 2), (1, 1)], 4]),
    (states.fits, [RECORD, 4, [2, 2, 1, 1]], [RECORD, 4, [3, 1, 1, 1]]),
    (states.misfit, [[(1, 1), (0, 2), (1, 1)], 4, [2, 2, 0, 0]], [[(1, 2), (0, 2), (1, 1)], 4, [2, 2, 0, 0]]),
    (ranges.position_range, [RECORD, 4, 4, 1], [[(1, 1), (0, 2), (1, 1)], 4, 4, 1]),
    (ranges.possible_ranks, [RECORD, 4, 3], [[(1, 1), (0, 2), (1, 1)], 4, 3]),
    (counting.count_ranks, [RECORD, 4], [[(1, 1), (0, 2), (1, 1)], 4]),
    (all_ranks, [RECORD, 4], [[(1, 1), (0, 2), (1, 1)], 4]),
    (counting.nth_ranks, [RECORD, 4, 1], [[(1, 2), (0, 2), (1, 1)], 4, 1]),
    (counting.ranks_index, [RECORD, 4, [0, 0, 1, 2, 1, 3]], [RECORD, 4, [0, 0, 1, 1, 2, 3]]),
    (counting.count_histories, [RECORD, 4], [[(1, 2), (0, 2), (1, 1)], 4]),
    (texts.format_record, [RECORD], [[(1, 1), (0, 2), (1, 1)]]),
    (texts.format_state, [[2, 2, 1, 1]], [[3, 2, 1, 0]]),
    (texts.parse_record, ["u2 s3 d1"], ["u1 s2 u1"]),
    (texts.parse_state, ["2 2 1 1"], ["3 2 1 0"]),
]


def spoil(value):
    """Change every list in a value."""
    if isinstance(value, (list, tuple)):
        for item in value:
            spoil(item)
    if isinstance(value, list):
        value.append("more")
        value[0] = "other"


class InterfaceTest(unittest.TestCase):

    def test_functions_are_defined_in_their_files(self):
        for module, names in INTERFACE.items():
            for name in names:
                self.assertEqual(getattr(importlib.import_module(module), name).__module__, module)

    def test_methods_are_defined_in_their_classes(self):
        for kind, methods in METHODS.items():
            self.assertIn(kind.__module__, ("teesizes.live", "teesizes.console"))
            for form, names in methods.items():
                for name in names:
                    self.assertIs(type(vars(kind)[name]), KINDS[form])

    def test_every_function_is_called_here(self):
        called = sorted(function.__name__ for function, _, _ in CALLS)
        self.assertEqual(called, sorted(name for names in INTERFACE.values() for name in names))


class ArgumentsTest(Checks, unittest.TestCase):

    def test_lists_and_tuples(self):
        for function, *both in CALLS:
            for arguments in both:
                wanted = function(*arguments)
                self.assert_same(function(*as_tuples(arguments)), wanted)
                self.assert_same(function(*as_lists(arguments)), wanted)

    def test_arguments_are_not_changed(self):
        for function, *both in CALLS:
            for arguments in both:
                for passed in (arguments, as_lists(arguments)):
                    before = copy.deepcopy(passed)
                    function(*passed)
                    self.assert_same(passed, before)

    def test_arguments_are_read_anew(self):
        for function, first, second in CALLS:
            passed = as_lists(first)
            before = copy.deepcopy(function(*passed))
            wanted = function(*second)
            self.assertNotEqual(before, wanted)
            for at, new in enumerate(as_lists(second)):
                if isinstance(new, list):
                    passed[at][:] = new
                else:
                    passed[at] = new
            self.assert_same(function(*passed), wanted)

    def test_results_do_not_depend_on_earlier_calls(self):
        record = [[1, 2], [0, 3], [-1, 1]]
        for count, wanted in ((3, (4, 5)), (2, (3, 4)), (6, (5, 8)), (3, (4, 5))):
            record[1][1] = count
            self.assert_same(possible_readers(record), wanted)
            self.assertIs(is_possible(record, 5), wanted[1] >= 5)

    def test_inner_lists_are_read_anew(self):
        record = [[1, 2], [0, 3], [-1, 1]]
        self.assertEqual(count_reads(record), 6)
        record[1][1] = 30
        self.assertEqual(count_reads(record), 33)
        record[1][0] = 1
        self.assertIs(is_record(record), False)

    def test_true_and_false_are_no_integers(self):
        for flag in (True, False):
            self.assertIs(is_history(2, [0, flag]), False)
            self.assertIs(is_ranks(2, [0, flag]), False)
            self.assertIs(is_record([(flag, 1)]), False)
            self.assertIs(is_record([(0, 1), (1, flag)]), False)
            self.assert_raises_exactly(InvalidReaders, is_history, flag, [])
            self.assert_raises_exactly(InvalidHistory, positions_after, 2, [flag])
            self.assert_raises_exactly(InvalidRanks, history_by, 2, [flag])
            self.assert_raises_exactly(InvalidChanges, record_by, [flag])
            self.assert_raises_exactly(InvalidNumber, totals_after, RECORD, flag)
            for function in (possible_readers, is_possible, obstruction, even_state):
                rest = [] if function is possible_readers else [1]
                self.assert_raises_exactly(InvalidRecord, function, [(0, flag)], *rest)
                if rest:
                    self.assert_raises_exactly(InvalidReaders, function, [], flag)
            self.assert_raises_exactly(InvalidReaders, obstructs, [], flag, ("single", 1))
            self.assertIs(obstructs([(1, 2)], 1, ("single", flag)), False)
            for function in (fits, misfit):
                self.assert_raises_exactly(InvalidReaders, function, [(0, 1)], flag, [1])
                self.assert_raises_exactly(InvalidState, function, [(0, 1)], 1, [flag])
            self.assert_raises_exactly(InvalidReaders, position_range, [(0, 1)], flag, 0, 0)
            self.assert_raises_exactly(InvalidNumber, position_range, [(0, 1)], 1, flag, 0)
            self.assert_raises_exactly(InvalidRank, position_range, [(1, 1)], 2, 0, flag)
            self.assert_raises_exactly(InvalidReaders, possible_ranks, [(0, 1)], flag, 0)
            self.assert_raises_exactly(InvalidNumber, possible_ranks, [(0, 2)], 1, flag)
            for function in (count_ranks, all_ranks, count_histories):
                self.assert_raises_exactly(InvalidRecord, function, [(0, flag)], 1)
                self.assert_raises_exactly(InvalidReaders, function, [(0, 1)], flag)
            self.assert_raises_exactly(InvalidNumber, nth_ranks, RECORD, 4, flag)
            self.assert_raises_exactly(InvalidRanks, ranks_index, [(1, 1), (-1, 1)], 2, [False, True])
            self.assert_raises_exactly(InvalidRecord, format_record, [(flag, 1)])
            self.assert_raises_exactly(InvalidState, format_state, [flag])
            self.assert_raises_exactly(InvalidNumber, LimitedSource, flag, "ann")


class ResultsTest(Checks, unittest.TestCase):

    def test_results_belong_to_the_caller(self):
        for function, *both in CALLS:
            for arguments in both:
                for passed in (arguments, as_lists(arguments)):
                    before = copy.deepcopy(passed)
                    result = function(*passed)
                    wanted = copy.deepcopy(result)
                    spoil(result)
                    self.assert_same(passed, before)
                    self.assert_same(function(*passed), wanted)

    def test_results_may_be_passed_again(self):
        history = [0, 1] * 200
        record = record_of(2, history)
        self.assertEqual(len(record), 400)
        self.assert_same(record_by(changes_by(record)), record)
        self.assert_same(joined(record), record)
        self.assertEqual(history_by(2, ranks_of(2, history)), history)
        self.assertEqual(positions_after(2, history_by(2, ranks_of(2, history))), [200, 200])
        great = joined([(1, 10 ** 30), (0, 10 ** 30)], [(-1, 10 ** 30)])
        self.assertEqual(totals_after(great, count_reads(great)), (10 ** 30,) * 3)

    def test_great_results_may_be_passed_again(self):
        words = count_words([20] * 20)
        self.assertGreater(words, 10 ** 300)
        self.assertIs(is_history(2, [words]), False)
        self.assertIs(is_ranks(2, [words]), False)
        self.assertIs(is_record([(1, words)]), False)
        self.assert_raises_exactly(InvalidReaders, is_history, words, [])
        self.assert_raises_exactly(InvalidNumber, totals_after, RECORD, words)
        changes = changes_by([(1, 1000), (0, 1000)])
        self.assert_raises_exactly(InvalidChanges, record_by, changes)
        self.assertIs(is_history(2, changes), False)

    def test_states_and_obstructions_may_be_passed_again(self):
        great = [(1, 10 ** 30), (0, 10 ** 30)] * 200
        least, _ = possible_readers(great)
        self.assertIs(is_possible(great, least), True)
        state = even_state(great, least)
        self.assertIs(fits(great, least, state), True)
        self.assert_same(misfit(great, least + 1, [*state, 0]), None)
        self.assert_raises_exactly(TooLong, count_words, state)
        least, greatest = position_range(great, 4, count_reads(great), 1)
        self.assertIs(fits(great, 4, [state[0], greatest, state[1] - greatest, 0]), True)
        self.assertIs(fits(great, 4, [state[0], least, state[1] - least, 0]), True)
        found = obstruction(RECORD, 3)
        self.assertIs(obstructs(RECORD, 3, found), True)
        error = self.assert_raises_exactly(Impossible, even_state, RECORD, 3)
        self.assertIs(obstructs(RECORD, 3, error.obstruction), True)
        words = count_words([20] * 20)
        self.assert_raises_exactly(InvalidReaders, is_possible, RECORD, words)
        self.assert_raises_exactly(InvalidNumber, possible_ranks, RECORD, 4, words)
        self.assertIs(obstructs(RECORD, 3, ("few", words)), False)

    def test_counts_texts_and_names_may_be_passed_again(self):
        record = [(1, 15), (0, 45)]
        count = count_ranks(record, 6)
        self.assertGreater(count, 10 ** 20)
        last = nth_ranks(record, 6, count - 1)
        self.assertEqual(ranks_index(record, 6, last), count - 1)
        self.assert_raises_exactly(InvalidNumber, nth_ranks, record, 6, count_histories(record, 6))
        self.assert_raises_exactly(InvalidReaders, count_ranks, record, count)
        self.assert_raises_exactly(InvalidReaders, count_ranks, RECORD, possible_readers([(1, 1), (0, 10 ** 30)])[0])
        self.assertIs(LimitedSource(count, "ann").limit, count)
        self.assert_raises_exactly(InvalidNumber, LimitedSource, count_words([20] * 20), "ann")
        self.assertEqual(record_of(6, history_by(6, last)), parse_record(format_record(record)))
        state = parse_state(format_state(even_state(record, 6)))
        self.assertEqual(count_words(state), count_words([15, 12, 11, 11, 11, 0]))
        source = Source.from_history(["ann", "bob"], ["bob", "ann", "bob"])
        self.assertEqual(is_possible(source.current_record(), 2), True)
        self.assertEqual(count_ranks(source.current_record(), 2), 1)
        self.assertEqual(LimitedSource.with_names(source.size, source.names_in_order()).limit, 1)
        self.assertEqual(Source.from_history(source.names_in_order(), source.current_history()).size, 1)

    def test_greatest_number_of_readers_may_be_passed_again(self):
        record = [(1, 10 ** 30), (0, 10 ** 30)] * 199 + [(1, 1), (-1, 1)]
        _, greatest = possible_readers(record)
        self.assertEqual(greatest, 199 * 10 ** 30 + 2)
        self.assertIs(is_possible(record, greatest), True)
        self.assert_same(obstruction(record, greatest + 1), ("many", count_reads(record)))
        self.assert_raises_exactly(InvalidReaders, even_state, record, greatest)

    def test_longest_sum_may_be_passed_again(self):
        record = [(at - at // 2 * 2, 10 ** 30) for at in range(400)]
        reads = count_reads(record)
        self.assertEqual(totals_after(record, reads), (200 * 10 ** 30, 200 * 10 ** 30, 0))
        totals = totals_after(record, reads)
        self.assertEqual(self.assert_raises_exactly(TooLong, count_words, totals).length, reads)


if __name__ == "__main__":
    unittest.main()
