"""[4] to [6], [9] (a) and (e), [10] and [11]: histories, ranks and states."""

import unittest
from math import comb

from teesizes.errors import InvalidHistory, InvalidRanks, InvalidReaders, InvalidState, TooLong
from teesizes.histories import (
    count_words, greatest_size, history_by, is_history, is_ranks, positions_after, ranks_of, record_of,
)
from tests.helper import Checks, NOT_INTEGERS, NOT_LISTS, lists_of, nested, runs_of, steps

WITH_HISTORY = [positions_after, ranks_of, record_of, greatest_size]
WITH_READERS = [is_history, *WITH_HISTORY, is_ranks, history_by]
HISTORY = [0, 0, 1, 2, 1, 3]
RANKS = [0, 0, 1, 2, 1, 3]


def small_histories():
    """Return (readers, history) for one to four readers and few reads."""
    pairs = []
    for readers, most in ((1, 6), (2, 6), (3, 6), (4, 5), (5, 4)):
        for length in range(most + 1):
            pairs.extend((readers, history) for history in lists_of(range(readers), length))
    return pairs


def with_item(at, item):
    """Return a list of nine zeros in which one item is another value."""
    items = [0] * 9
    items[at] = item
    return items


def states_up_to(length, most):
    """Return all states with so many entries, none of them greater than the limit."""
    return [state for state in lists_of(range(most + 1), length) if state == sorted(state, reverse=True)]


def words_by_states_before(state, kept):
    """Return the number of lists of ranks, counted by the last read."""
    key = tuple(state)
    if key not in kept:
        before = [[*state[:i], state[i] - 1, *state[i + 1:]] for i in range(len(state)) if state[i] > 0]
        real = [one for one in before if one == sorted(one, reverse=True)]
        kept[key] = sum(words_by_states_before(one, kept) for one in real) if any(state) else 1
    return kept[key]


class ExamplesTest(Checks, unittest.TestCase):

    def test_histories(self):
        self.assert_same(
            [positions_after(4, HISTORY), ranks_of(4, HISTORY), record_of(4, HISTORY)],
            [[2, 2, 1, 1], [0, 0, 1, 2, 1, 3], [(1, 2), (0, 3), (-1, 1)]],
        )
        self.assert_same([greatest_size(4, [0, 0, 1, 2, 1, 3]), greatest_size(1, [0, 0])], [2, 0])

    def test_ranks(self):
        self.assert_same([is_ranks(4, [0, 0, 1, 2, 1, 3]), is_ranks(4, [0, 1, 1])], [True, False])
        self.assert_same(history_by(4, [0, 1, 0, 2]), [0, 1, 0, 2])
        self.assert_same([count_words([2, 2, 1, 1]), count_words([0]), count_words([3, 1])], [9, 1, 3])


class HistoryTest(Checks, unittest.TestCase):

    def test_small_histories(self):
        for readers, history in small_histories():
            positions, ranks, sizes = steps(readers, history)
            changes = [after - before for before, after in zip(sizes, sizes[1:])]
            self.assertIs(is_history(readers, history), True)
            self.assert_same(positions_after(readers, history), positions)
            self.assert_same(ranks_of(readers, history), ranks)
            self.assert_same(record_of(readers, history), runs_of(changes))
            self.assert_same(greatest_size(readers, history), max(sizes))

    def test_long_histories(self):
        for readers, factor in ((7, 3), (19, 5), (200, 37)):
            history = [number * number * factor // 11 % readers for number in range(400)]
            positions, ranks, sizes = steps(readers, history)
            changes = [after - before for before, after in zip(sizes, sizes[1:])]
            self.assertEqual(positions_after(readers, history), positions)
            self.assertEqual(ranks_of(readers, history), ranks)
            self.assertEqual(record_of(readers, history), runs_of(changes))
            self.assertEqual(greatest_size(readers, history), max(sizes))

    def test_one_reader(self):
        self.assertEqual(positions_after(1, [0] * 3), [3])
        self.assertEqual(ranks_of(1, [0] * 3), [0, 0, 0])
        self.assertEqual(record_of(1, [0] * 3), [(0, 3)])

    def test_200_readers(self):
        history = list(range(200)) + list(range(199, -1, -1))
        self.assertIs(is_history(200, history), True)
        self.assertEqual(positions_after(200, history), [2] * 200)
        self.assertEqual(ranks_of(200, history), list(range(200)) * 2)
        self.assertEqual(record_of(200, history), [(1, 1), (0, 198), (-1, 1)] * 2)
        self.assertEqual(greatest_size(200, history), 1)
        self.assertIs(is_ranks(200, list(range(200))), True)
        self.assertEqual(history_by(200, list(range(200)) * 2), list(range(200)) * 2)

    def test_no_reads(self):
        for readers in (1, 2, 200):
            for empty in ([], ()):
                self.assertIs(is_history(readers, empty), True)
                self.assert_same(positions_after(readers, empty), [0] * readers)
                self.assert_same(ranks_of(readers, empty), [])
                self.assert_same(record_of(readers, empty), [])
                self.assert_same(greatest_size(readers, empty), 0)
                self.assertIs(is_ranks(readers, empty), True)
                self.assert_same(history_by(readers, empty), [])

    def test_400_and_401_reads(self):
        history = [0, 1] * 200
        self.assertIs(is_history(2, history), True)
        self.assertEqual(positions_after(2, history), [200, 200])
        self.assertEqual(ranks_of(2, history), history)
        self.assertEqual(record_of(2, history), [(1, 1), (-1, 1)] * 200)
        self.assertEqual(greatest_size(2, history), 1)
        self.assertEqual(greatest_size(2, [1] * 400), 400)
        for longer in ([*history, 0], (*history, 0), [0] * 100000):
            self.assertIs(is_history(2, longer), False)
            for function in WITH_HISTORY:
                self.assert_raises_exactly(InvalidHistory, function, 2, longer)

    def test_wrong_readers(self):
        for readers in [0, -1, 201, 10 ** 40, -(10 ** 40), 10 ** 5000, *NOT_INTEGERS]:
            for function in WITH_READERS:
                for value in ([], [0], [5], None, "x", [None]):
                    self.assert_raises_exactly(InvalidReaders, function, readers, value)

    def test_wrong_items(self):
        for item in [3, -1, 10 ** 40, -(10 ** 5000), *NOT_INTEGERS]:
            for at in (0, 4, 8):
                history = with_item(at, item)
                for value in (history, tuple(history)):
                    self.assertIs(is_history(3, value), False)
                    for function in WITH_HISTORY:
                        self.assert_raises_exactly(InvalidHistory, function, 3, value)

    def test_values_that_are_no_lists(self):
        for value in [*NOT_LISTS, nested(20), [nested(19)], ({"a": [1]},)]:
            self.assertIs(is_history(3, value), False)
            for function in WITH_HISTORY:
                self.assert_raises_exactly(InvalidHistory, function, 3, value)

    def test_greatest_number_of_a_reader(self):
        for readers in (1, 2, 200):
            self.assertIs(is_history(readers, [readers - 1]), True)
            self.assertIs(is_history(readers, [readers]), False)


class RanksTest(Checks, unittest.TestCase):

    def test_ranks_of_all_histories(self):
        for readers in (1, 2, 3):
            for length in range(6):
                real = [steps(readers, history)[1] for history in lists_of(range(readers), length)]
                for ranks in lists_of(range(readers), length):
                    self.assertIs(is_ranks(readers, ranks), ranks in real)
                    if ranks not in real:
                        self.assert_raises_exactly(InvalidRanks, history_by, readers, ranks)

    def test_history_by_lets_the_smallest_number_read(self):
        for readers in (1, 2, 3):
            for length in range(6):
                least = {}
                # The histories come in ascending order, so the first one has the smallest numbers.
                for history in lists_of(range(readers), length):
                    least.setdefault(tuple(steps(readers, history)[1]), history)
                for ranks, history in least.items():
                    self.assert_same(history_by(readers, list(ranks)), history)

    def test_history_by_for_long_lists(self):
        for readers in (3, 8, 50):
            ranks = steps(readers, [number * number // 7 % readers for number in range(400)])[1]
            history = history_by(readers, ranks)
            self.assertEqual(steps(readers, history)[1], ranks)
            for at, reader in enumerate(history):
                positions = steps(readers, history[:at])[0]
                self.assertEqual(reader, positions.index(positions[reader]))

    def test_one_rank_too_often(self):
        self.assertIs(is_ranks(3, [1]), False)
        self.assertIs(is_ranks(3, [0, 2]), False)
        self.assertIs(is_ranks(3, [0, 1, 2, 2, 0, 1]), False)
        self.assertIs(is_ranks(3, [0, 1, 2, 0, 1, 2]), True)

    def test_400_and_401_ranks(self):
        for ranks in ([0] * 400, [0, 1] * 200, [0] * 200 + [1] * 200, (0,) * 400):
            self.assertIs(is_ranks(2, ranks), True)
            self.assertEqual(ranks_of(2, history_by(2, ranks)), list(ranks))
            longer = [*ranks, 0]
            self.assertIs(is_ranks(2, longer), False)
            self.assert_raises_exactly(InvalidRanks, history_by, 2, longer)

    def test_wrong_items(self):
        for item in [3, -1, 10 ** 40, -(10 ** 5000), *NOT_INTEGERS]:
            for at in (0, 4, 8):
                ranks = with_item(at, item)
                for value in (ranks, tuple(ranks)):
                    self.assertIs(is_ranks(3, value), False)
                    self.assert_raises_exactly(InvalidRanks, history_by, 3, value)

    def test_values_that_are_no_lists(self):
        for value in [*NOT_LISTS, nested(20), [nested(19)]]:
            self.assertIs(is_ranks(3, value), False)
            self.assert_raises_exactly(InvalidRanks, history_by, 3, value)


class CountWordsTest(Checks, unittest.TestCase):

    def test_counting_by_states_before(self):
        kept = {}
        states = [state for length in (1, 2, 3, 4) for state in states_up_to(length, 5)]
        for state in [*states, [9, 7, 7, 4, 2, 2, 1, 0, 0], [12, 9, 3, 3, 1], [6] * 5]:
            self.assert_same(count_words(state), words_by_states_before(state, kept))

    def test_counting_lists_of_ranks(self):
        for readers in (1, 2, 3):
            for length in range(7):
                found = {}
                for ranks in lists_of(range(readers), length):
                    if is_ranks(readers, ranks):
                        state = tuple(ranks.count(rank) for rank in range(readers))
                        found[state] = found.get(state, 0) + 1
                for state, count in found.items():
                    self.assertEqual(count_words(state), count)

    def test_entries_0_at_the_end(self):
        for state in ([0], [5], [3, 1], [4, 4, 2]):
            for many in (1, 7, 196):
                self.assertEqual(count_words(state + [0] * many), count_words(state))
        self.assertEqual(count_words([0] * 200), 1)

    def test_one_entry(self):
        for entry in (0, 1, 2, 399, 400):
            self.assertEqual(count_words([entry]), 1)
        for entry in (401, 10 ** 33):
            self.assertEqual(self.assert_raises_exactly(TooLong, count_words, [entry]).length, entry)

    def test_sums_of_400_and_401(self):
        self.assertEqual(count_words([200, 200]), comb(400, 200) // 201)
        self.assertEqual(count_words([2] * 200), comb(400, 200) // 201)
        self.assertEqual(count_words([399, 1]), 399)
        for state in ([201, 200], [399, 1, 1], [401, 0], [3] + [2] * 199):
            self.assertEqual(self.assert_raises_exactly(TooLong, count_words, state).length, 401)

    def test_great_entries(self):
        for state in ([10 ** 33] * 200, [10 ** 33, 1, 0], [10 ** 33 - 1] * 3):
            self.assertEqual(self.assert_raises_exactly(TooLong, count_words, state).length, sum(state))

    def test_wrong_states(self):
        wrong = [
            [], (), [0, 1], [3, 2, 2, 3], [-1], [1, -1], [10 ** 33 + 1], [10 ** 33 + 1, 0], [10 ** 5000],
            [0] * 201, [2] * 201, [200, 401], [500, 600], [10 ** 33] * 201, nested(20), *NOT_LISTS,
        ]
        for value in wrong:
            self.assert_raises_exactly(InvalidState, count_words, value)
        for item in NOT_INTEGERS:
            for state in ([item, 0, 0], [3, item, 0], [3, 1, item], [10 ** 33, 10 ** 33, item]):
                self.assert_raises_exactly(InvalidState, count_words, state)


if __name__ == "__main__":
    unittest.main()
