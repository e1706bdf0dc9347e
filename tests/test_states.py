"""[9] (c) and (d) and [14]: the states at the end of the histories with a record."""

import unittest
from random import Random

from teesizes.errors import Impossible, InvalidReaders, InvalidRecord, InvalidState
from teesizes.states import even_state, fits, misfit
from tests.helper import Checks, NOT_INTEGERS, NOT_LISTS, lists_of, nested, runs_of, wrong_records
from tests.walks import (
    can_stand, changes_of, ends_of, first_reads, long_records, possible_walks, records_to_walk, small_states,
    totals_at, totals_at_ends, walk_of,
)

MOST = 10 ** 30
RECORD = [(1, 2), (0, 3), (-1, 1)]
LATE = [(1, 1), (0, 2), (1, 1)]
WITH_STATE = [fits, misfit]


def has_room(state, totals):
    """Return whether the middle entries leave room for Z(n), as [9] (c) says."""
    return sum(min(totals[0], entry) for entry in state[1:-1]) >= totals[1]


def misfit_by_definition(record, state):
    """Return what [14] says of a state and a record with few reads."""
    reads = ends_of(record)[-1]
    plus, zero, minus = totals_at(record, reads)
    if len(state) == 1:
        return None if state == [zero] else ("ends",)
    if (state[0], sum(state[1:-1]), state[-1]) != (plus, zero, minus):
        return ("ends",)
    for number in range(reads + 1):
        if not has_room(state, totals_at(record, number)):
            return ("prefix", number)
    return None


def moved(state, giver, taker, amount):
    """Return the state in which an amount is moved from one middle entry to another one."""
    middle = list(state[1:-1])
    middle[giver] -= amount
    middle[taker] += amount
    return [state[0], *sorted(middle, reverse=True), state[-1]]


class ExamplesTest(Checks, unittest.TestCase):

    def test_examples(self):
        self.assert_same([even_state(RECORD, 4), even_state(RECORD, 5)], [[2, 2, 1, 1], [2, 1, 1, 1, 1]])
        self.assert_same(
            [fits(LATE, 4, [2, 1, 1, 0]), misfit(LATE, 4, [2, 2, 0, 0]), misfit(LATE, 4, [2, 2, 1, 0])],
            [True, ("prefix", 3), ("ends",)],
        )


class SmallRecordsTest(Checks, unittest.TestCase):

    def check_states(self, record, readers, reached, states):
        for state in states:
            self.assertIs(fits(record, readers, state), tuple(state) in reached)
            found = misfit(record, readers, state)
            self.assert_same(found, misfit_by_definition(record, state))
            self.assertIs(found is None, tuple(state) in reached)

    def check_even_state(self, record, readers, reached):
        found = even_state(record, readers)
        self.assertIs(type(found), list)
        self.assertIn(tuple(found), reached)
        # There is only one descending list of middle entries with this sum that differ by at most 1.
        middle = found[1:-1]
        self.assertLessEqual(max(middle, default=0) - min(middle, default=0), 1)
        self.assertIsNone(misfit(record, readers, found))

    def test_all_states_of_all_records(self):
        for readers, reads, greatest in ((1, 5, 7), (2, 6, 7), (3, 6, 6), (4, 6, 6), (5, 6, 5), (6, 6, 4)):
            states = small_states(readers, greatest)
            for changes, layers in possible_walks(readers, reads):
                record = runs_of(changes)
                self.check_states(record, readers, layers[-1], states)
                self.check_even_state(record, readers, layers[-1])

    def test_states_of_longer_records(self):
        for readers in (3, 4, 5, 6):
            for record in records_to_walk(readers, 24, readers, 12):
                reached = walk_of(readers, changes_of(record))[-1]
                plus, zero, minus = totals_at_ends(record)[-1]
                choices = lists_of(range(plus + 1), readers - 2) if readers < 6 else [list(s[1:-1]) for s in reached]
                states = [[plus, *middle, minus] for middle in choices if middle == sorted(middle, reverse=True)]
                states = [state for state in states if state[-2] >= minus and sum(state[1:-1]) == zero]
                self.assertLessEqual(reached, {tuple(state) for state in states})
                self.check_states(record, readers, reached, states)
                self.check_even_state(record, readers, reached)


class NumbersOfReadersTest(Checks, unittest.TestCase):

    def test_record_without_runs(self):
        for readers in (1, 2, 3, 200):
            for empty in ([], ()):
                zeros = [0] * readers
                self.assert_same(even_state(empty, readers), zeros)
                self.assertIs(fits(empty, readers, zeros), True)
                self.assertIsNone(misfit(empty, readers, zeros))
                self.assertIs(fits(empty, readers, [1, *zeros[1:]]), False)
                self.assert_same(misfit(empty, readers, [1, *zeros[1:]]), ("ends",))

    def test_one_reader(self):
        self.assert_same(even_state([(0, MOST)], 1), [MOST])
        for position in (0, 1, MOST - 1, MOST + 1, 10 ** 33):
            self.assert_same(misfit([(0, MOST)], 1, [position]), ("ends",))
            self.assertIs(fits([(0, MOST)], 1, (position,)), False)
        self.assertIsNone(misfit([(0, MOST)], 1, [MOST]))
        self.assertIs(fits([(0, MOST)], 1, (MOST,)), True)

    def test_two_readers(self):
        record = [(1, MOST), (-1, 5), (1, 2)]
        self.assert_same(even_state(record, 2), [MOST + 2, 5])
        self.assertIsNone(misfit(record, 2, [MOST + 2, 5]))
        for state in ([MOST + 2, 4], [MOST + 2, 6], [MOST + 1, 5], [MOST + 3, 5], [MOST + 1, 6], [0, 0]):
            self.assert_same(misfit(record, 2, state), ("ends",))
            self.assertIs(fits(record, 2, state), False)

    def test_three_readers(self):
        record = [(1, MOST), (0, MOST), (-1, MOST)]
        self.assert_same(even_state(record, 3), [MOST] * 3)
        self.assertIsNone(misfit(record, 3, [MOST] * 3))
        self.assert_same(misfit(record, 3, [MOST, MOST, MOST - 1]), ("ends",))
        self.assert_same(misfit(record, 3, [MOST, MOST - 1, MOST - 1]), ("ends",))

    def test_200_readers(self):
        record = [(1, 1), (0, 198), (1, MOST), (0, 99), (-1, 1)]
        self.assert_same(even_state(record, 200), [MOST + 1, *[2] * 99, *[1] * 99, 1])
        self.assertIs(fits(record, 200, [MOST + 1, 100, *[1] * 197, 1]), True)
        self.assert_same(misfit(record, 200, [MOST + 1, 100, 2, *[1] * 197]), ("ends",))
        record = [(1, 1), (0, 197), (1, MOST), (0, 100)]
        self.assertIs(fits(record, 200, [MOST + 1, 101, *[1] * 196, 0, 0]), True)
        self.assert_same(misfit(record, 200, [MOST + 1, 102, *[1] * 195, 0, 0, 0]), ("prefix", 198))
        self.assert_same(misfit(record, 200, [MOST + 1, 297, *[0] * 198]), ("prefix", 3))


class GreatRecordsTest(Checks, unittest.TestCase):

    def check_state(self, record, readers, state):
        found = misfit(record, readers, state)
        self.assertIs(fits(record, readers, state), found is None)
        self.assertIs(can_stand(record, state, ends_of(record)[-1]), found is None)
        if found is not None:
            self.assertEqual(found[0], "prefix")
            self.assertIs(has_room(state, totals_at(record, found[1])), False)
            self.assertIs(has_room(state, totals_at(record, found[1] - 1)), True)
            ends = totals_at_ends(first_reads(record, found[1] - 1))
            self.assertTrue(all(has_room(state, totals) for totals in ends))
        return found

    def test_amounts_moved_between_middle_entries(self):
        found = {True: 0, False: 0}
        for readers in (4, 5, 9, 40):
            for record in long_records(readers, 400, readers, 12) + long_records(readers, 30, readers + 1, 12):
                state = even_state(record, readers)
                self.assertIsNone(self.check_state(record, readers, state))
                for giver, taker in ((-1, 0), (-1, 1), (-2, 0), (0, -1), ((readers - 2) // 2, 0)):
                    most = min(state[1:-1][giver] - state[-1], state[0] - state[1:-1][taker])
                    for amount in sorted({1, 2, most // 100, most // 3, most - 1, most}):
                        if 0 < amount <= most:
                            result = self.check_state(record, readers, moved(state, giver, taker, amount))
                            found[result is None] += 1
        self.assertGreater(min(found.values()), 100)

    def test_amounts_of_many_entries_moved(self):
        random = Random(14)
        words = []
        for readers in (5, 9, 40, 200):
            for record in long_records(readers, 400, readers, 12):
                state = even_state(record, readers)
                for _ in range(12):
                    giver, taker = random.sample(range(readers - 2), 2)
                    most = min(state[1:-1][giver] - state[-1], state[0] - state[1:-1][taker])
                    state = moved(state, giver, taker, random.choice([most, most // 2, most // 7, min(most, 1)]))
                    words.append(self.check_state(record, readers, state) is None)
        self.assertGreater(min(words.count(True), words.count(False)), 50)

    def test_wrong_ends(self):
        for readers in (3, 4, 9, 200):
            for record in long_records(readers, 400, readers, 4):
                state = even_state(record, readers)
                self.assertIsNone(misfit(record, readers, tuple(state)))
                more = [state[0] + 1, *state[1:]]
                self.assert_same(misfit(record, readers, more), ("ends",))
                self.assertIs(fits(record, readers, more), False)
                for at in range(1, readers):
                    if state[at] < state[at - 1]:
                        other = [*state[:at], state[at] + 1, *state[at + 1:]]
                        self.assert_same(misfit(record, readers, other), ("ends",))
                if state[-1] > 0:
                    self.assert_same(misfit(record, readers, [*state[:-1], state[-1] - 1]), ("ends",))
                if state[-1] + 1 < state[-2]:
                    other = [*state[:-2], state[-2] - 1, state[-1] + 1]
                    self.assert_same(misfit(record, readers, sorted(other, reverse=True)), ("ends",))

    def test_ends_before_prefix(self):
        self.assert_same(misfit(LATE, 4, [2, 2, 0, 0]), ("prefix", 3))
        self.assert_same(misfit(LATE, 4, [3, 2, 0, 0]), ("ends",))
        self.assert_same(misfit(LATE, 4, [2, 2, 2, 0]), ("ends",))

    def test_greatest_entries(self):
        record = [(1, MOST), (0, MOST)] * 200
        state = even_state(record, 3)
        self.assert_same(state, [200 * MOST, 200 * MOST, 0])
        self.assertIs(fits(record, 3, state), True)
        self.assert_same(misfit(record, 3, [10 ** 33, 200 * MOST, 0]), ("ends",))
        self.assert_same(misfit(record, 4, [200 * MOST, 200 * MOST, 0, 0]), None)


class ErrorsTest(Checks, unittest.TestCase):

    def wrong_states(self, readers):
        state = [9 - at for at in range(readers)]
        values = [
            [], (), [*state, 0], state[:-1], [*state[:-1], -1], [10 ** 33 + 1, *state[1:]], [10 ** 5000, *state[1:]],
            [0] * 201, [0] * 199, [0] * 200, nested(20), [nested(19)], tuple([nested(19)] * readers),
            *NOT_LISTS,
        ]
        if readers > 1:
            values.append([*state[1:], state[0]])
        for item in NOT_INTEGERS:
            for at in range(readers):
                values.append([*state[:at], item, *state[at + 1:]])
        return values

    def test_wrong_records(self):
        for value in wrong_records():
            self.assert_raises_exactly(InvalidRecord, even_state, value, 3)
            for function in WITH_STATE:
                self.assert_raises_exactly(InvalidRecord, function, value, 3, [0, 0, 0])
                self.assert_raises_exactly(InvalidRecord, function, value, 0, None)

    def test_wrong_readers(self):
        for readers in [0, -1, 201, 10 ** 39, 10 ** 5000, nested(20), *NOT_INTEGERS]:
            for record in (RECORD, [], [(-1, 1)]):
                self.assert_raises_exactly(InvalidReaders, even_state, record, readers)
                for function in WITH_STATE:
                    for state in ([2, 2, 1, 1], [], None):
                        self.assert_raises_exactly(InvalidReaders, function, record, readers, state)

    def test_wrong_states(self):
        for readers, record in ((1, [(0, 3)]), (2, [(1, 3)]), (4, RECORD), (4, [(-1, 1)]), (1, [(-1, 1)])):
            for value in self.wrong_states(readers):
                for function in WITH_STATE:
                    self.assert_raises_exactly(InvalidState, function, record, readers, value)

    def test_impossible_records(self):
        for record, readers, wanted in (
            (RECORD, 1, ("single", 1)), (RECORD, 2, ("two", 3)), (RECORD, 3, ("few", 5)), (RECORD, 6, ("many", 6)),
            ([(-1, MOST)], 200, ("many", 1)), ([(1, MOST), (0, MOST), (1, 1), (0, 2)], 3, ("few", 2 * MOST + 3)),
        ):
            even = self.assert_raises_exactly(Impossible, even_state, record, readers)
            self.assert_same(even.obstruction, wanted)
            for function in WITH_STATE:
                for state in ([0] * readers, [10 ** 33] * readers):
                    error = self.assert_raises_exactly(Impossible, function, record, readers, state)
                    self.assert_same(error.obstruction, wanted)

    def test_200_readers_are_the_most(self):
        self.assert_same(even_state([(1, 5)], 200), [5] + [0] * 199)
        self.assert_raises_exactly(InvalidReaders, even_state, [(1, 5)], 201)


if __name__ == "__main__":
    unittest.main()
