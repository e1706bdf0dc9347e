"""[15] and [16]: the positions and ranks that the readers can have."""

import unittest
from random import Random

from teesizes.errors import Impossible, InvalidNumber, InvalidRank, InvalidReaders, InvalidRecord
from teesizes.ranges import position_range, possible_ranks
from tests.helper import Checks, NOT_INTEGERS, nested, runs_of, wrong_records
from tests.walks import (
    can_stand, changes_of, ends_of, evenly, kept_by_end, long_records, possible_walks, records_to_walk, small_states,
    totals_at, walk_of,
)

MOST = 10 ** 30
RECORD = [(1, 2), (0, 3), (-1, 1)]


def state_with_entry(readers, totals, rank, entry, greater):
    """Return the state with these totals and an entry whose middle entries are the most even ones.

    The entry is greater or smaller than that of the most even state, so the entries on one side of it
    are equal to it. None if the totals leave no such state.
    """
    plus, zero, minus = totals
    if greater:
        equal, others = rank, readers - 2 - rank
    else:
        equal, others = readers - 1 - rank, rank - 1
    rest = zero - equal * entry
    if rest < 0 or (others == 0 and rest > 0):
        return None
    first = [entry] * equal
    return [plus, *first, *evenly(rest, others), minus] if greater else [plus, *evenly(rest, others), *first, minus]


def states_before_a_read(readers, totals, rank):
    """Return the states that can be the most even ones of those in which a rank is different from the one before.

    For each entry of that rank near the even share, the ones above have the least sum that they can have
    beside it, or the ones from it on have the greatest one.
    """
    plus, zero, minus = totals
    above, below = rank - 1, readers - 2 - rank
    share = zero // (readers - 2)
    found = []
    for entry in range(max(0, share - 4), share + 5):
        for upper in (above * (entry + 1), zero - (below + 1) * entry):
            lower = zero - entry - upper
            if upper >= above * (entry + 1) and 0 <= lower <= below * entry and (above or upper == 0):
                found.append([plus, *evenly(upper, above), entry, *evenly(lower, below), minus])
    return found


class ExamplesTest(Checks, unittest.TestCase):

    def test_examples(self):
        self.assert_same(
            [position_range(RECORD, 4, 4, 1), position_range(RECORD, 4, 4, 2), position_range(RECORD, 4, 6, 2)],
            [(1, 2), (0, 1), (1, 1)],
        )
        self.assert_same([possible_ranks(RECORD, 4, number) for number in (1, 2, 3, 5)], [[0], [1], [1, 2], [3]])
        self.assert_same(
            [position_range([(0, 5)], 1, 3, 0), possible_ranks([(0, 5)], 1, 3),
             position_range([(1, 3), (-1, 1)], 2, 4, 1)],
            [(3, 3), [0], (1, 1)],
        )


class SmallRecordsTest(Checks, unittest.TestCase):

    def check(self, record, readers, changes, layers):
        kept, ranks = kept_by_end(changes, layers)
        for number, states in enumerate(kept):
            for rank in range(readers):
                entries = {state[rank] for state in states}
                found = position_range(record, readers, number, rank)
                self.assert_same(found, (min(entries), max(entries)))
                self.assertEqual(len(entries), found[1] - found[0] + 1)
        for number, wanted in enumerate(ranks):
            self.assert_same(possible_ranks(record, readers, number), wanted)
        return ranks

    def test_all_records(self):
        for readers, reads in ((1, 5), (2, 7), (3, 8), (4, 8), (5, 8), (6, 8), (8, 7)):
            for changes, layers in possible_walks(readers, reads):
                self.check(runs_of(changes), readers, changes, layers)

    def test_longer_records(self):
        for readers in (3, 4, 5, 6, 7):
            for record in records_to_walk(readers, 30, readers, 15):
                changes = changes_of(record)
                self.check(record, readers, changes, walk_of(readers, changes))

    def test_what_may_stand_at_a_moment(self):
        # The long records below are compared with [16], so [16] is compared with the histories here.
        for readers, reads, greatest in ((3, 6, 6), (4, 6, 6), (5, 6, 4)):
            states = small_states(readers, greatest)
            for changes, layers in possible_walks(readers, reads):
                record = runs_of(changes)
                for number, kept in enumerate(kept_by_end(changes, layers)[0]):
                    found = {tuple(state) for state in states if can_stand(record, state, number)}
                    self.assertEqual(found, {state for state in kept if state[0] <= greatest})

    def test_ranks_need_not_follow_one_another(self):
        self.assert_same(possible_ranks([(1, 1), (0, 2), (1, 1), (0, 1)], 6, 4), [1, 3])
        self.assert_same(possible_ranks([(1, 1), (0, 100), (1, 1), (0, 1)], 200, 102), [1, 101])


class NumbersOfReadersTest(Checks, unittest.TestCase):

    def test_one_reader(self):
        for number in (0, 1, MOST - 1, MOST):
            self.assert_same(position_range([(0, MOST)], 1, number, 0), (number, number))
        for number in (0, 1, MOST - 1):
            self.assert_same(possible_ranks([(0, MOST)], 1, number), [0])

    def test_two_readers(self):
        record = [(1, MOST), (-1, MOST), (1, 1)]
        for number, plus, minus in (
            (0, 0, 0), (1, 1, 0), (MOST, MOST, 0), (MOST + 7, MOST, 7), (2 * MOST, MOST, MOST),
            (2 * MOST + 1, MOST + 1, MOST),
        ):
            self.assert_same(position_range(record, 2, number, 0), (plus, plus))
            self.assert_same(position_range(record, 2, number, 1), (minus, minus))
        for number, rank in ((0, 0), (MOST - 1, 0), (MOST, 1), (2 * MOST - 1, 1), (2 * MOST, 0)):
            self.assert_same(possible_ranks(record, 2, number), [rank])

    def test_record_without_runs(self):
        for readers in (1, 2, 3, 200):
            for rank in {0, readers // 2, readers - 1}:
                self.assert_same(position_range([], readers, 0, rank), (0, 0))
                self.assert_same(position_range((), readers, 0, rank), (0, 0))

    def test_200_readers(self):
        record = [(1, MOST), (0, 198 * MOST // 400), (1, 1)]
        number = MOST + 5
        self.assert_same(position_range(record, 200, number, 0), (MOST, MOST))
        self.assert_same(position_range(record, 200, number, 1), (1, 5))
        self.assert_same(position_range(record, 200, number, 5), (0, 1))
        self.assert_same(position_range(record, 200, number, 6), (0, 0))
        self.assert_same(position_range(record, 200, number, 199), (0, 0))
        self.assert_same(possible_ranks(record, 200, number), [1, 2, 3, 4, 5, 6])
        self.assert_same(possible_ranks(record, 200, ends_of(record)[2]), [0])
        self.assert_same(possible_ranks(record, 200, ends_of(record)[2] - 1), list(range(1, 199)))

    def test_reads_with_the_changes_1_and_minus_1(self):
        for readers in (3, 4, 200):
            record = [(1, MOST), (0, 10 ** 29), (-1, 1), (1, 1)]
            for number, wanted in (
                (0, [0]), (MOST - 1, [0]), (MOST + 10 ** 29, [readers - 1]), (MOST + 10 ** 29 + 1, [0]),
            ):
                self.assert_same(possible_ranks(record, readers, number), wanted)


class GreatRecordsTest(Checks, unittest.TestCase):

    def moments(self, record, random, many):
        ends = ends_of(record)
        found = {0, ends[-1], ends[len(ends) // 2], ends[len(ends) // 3] + 1, ends[len(ends) // 3] - 1}
        found.update(random.randint(0, ends[-1]) for _ in range(many))
        return sorted(number for number in found if 0 <= number <= ends[-1])

    def check_middle(self, record, readers, number, rank):
        totals = totals_at(record, number)
        least, greatest = position_range(record, readers, number, rank)
        even = [totals[0], *evenly(totals[1], readers - 2), totals[2]][rank]
        self.assertLessEqual(least, even)
        self.assertLessEqual(even, greatest)
        for entry, wanted in ((greatest, True), (greatest + 1, False)):
            # The even state itself is another one than those with a greater or a smaller entry.
            if entry > even:
                state = state_with_entry(readers, totals, rank, entry, True)
                self.assertIs(state is not None and can_stand(record, state, number), wanted)
        for entry, wanted in ((least, True), (least - 1, False)):
            if 0 <= entry < even:
                state = state_with_entry(readers, totals, rank, entry, False)
                self.assertIs(state is not None and can_stand(record, state, number), wanted)
        return greatest - least

    def test_position_range(self):
        random = Random(15)
        for readers, many, runs in ((3, 4, 400), (4, 10, 400), (5, 10, 400), (9, 8, 400), (9, 12, 30), (200, 2, 400)):
            widths = []
            for record in long_records(readers, runs, readers + 1, many):
                for number in self.moments(record, random, 4):
                    plus, zero, minus = totals_at(record, number)
                    self.assert_same(position_range(record, readers, number, 0), (plus, plus))
                    self.assert_same(position_range(record, readers, number, readers - 1), (minus, minus))
                    for rank in sorted({1, 2, readers // 2, readers - 3, readers - 2}):
                        if 0 < rank < readers - 1:
                            widths.append(self.check_middle(record, readers, number, rank))
            self.assertGreater(max(widths), 100 if readers > 3 else -1)

    def check_ranks(self, record, readers, number, ranks):
        found = possible_ranks(record, readers, number)
        self.assertEqual(found, sorted(set(found)))
        totals = totals_at(record, number)
        change = [now - before for before, now in zip(totals, totals_at(record, number + 1))]
        if change[1] == 0:
            self.assertEqual(found, [0] if change[0] else [readers - 1])
            return 0
        self.assertTrue(found and 0 < found[0] and found[-1] < readers - 1)
        for rank in ranks:
            states = states_before_a_read(readers, totals, rank)
            after = [[*state[:rank], state[rank] + 1, *state[rank + 1:]] for state in states]
            wanted = any(can_stand(record, old, number) and can_stand(record, new, number + 1)
                         for old, new in zip(states, after))
            self.assertIs(rank in found, wanted)
        return readers - 2 - len(found)

    def test_possible_ranks(self):
        random = Random(16)
        for readers, many, runs in ((3, 4, 400), (4, 10, 400), (5, 10, 400), (9, 8, 400), (9, 12, 30), (200, 2, 400)):
            missing = []
            for record in long_records(readers, runs, readers + 2, many):
                ranks = sorted({1, 2, readers // 2, readers - 3, readers - 2} & set(range(1, readers - 1)))
                ends = ends_of(record)
                starts = [start for start, run in zip(ends, record) if run[0] == 0]
                numbers = random.sample(starts, 3) + [starts[0], starts[0] + 1, ends[-1] - 1]
                numbers += self.moments(record, random, 2)
                for number in numbers:
                    if number < ends[-1]:
                        missing.append(self.check_ranks(record, readers, number, ranks))
            self.assertGreater(max(missing), 0 if readers > 3 else -1)


class ErrorsTest(Checks, unittest.TestCase):

    def test_wrong_records(self):
        for value in wrong_records():
            for readers, number, rank in ((3, 0, 0), (0, -1, 9), (None, None, None)):
                self.assert_raises_exactly(InvalidRecord, position_range, value, readers, number, rank)
                self.assert_raises_exactly(InvalidRecord, possible_ranks, value, readers, number)

    def test_wrong_readers(self):
        for readers in [0, -1, 201, 10 ** 39, 10 ** 5000, nested(20), *NOT_INTEGERS]:
            for record in (RECORD, [], [(-1, 1)]):
                for number, rank in ((0, 0), (-1, -1), (None, None)):
                    self.assert_raises_exactly(InvalidReaders, position_range, record, readers, number, rank)
                    self.assert_raises_exactly(InvalidReaders, possible_ranks, record, readers, number)

    def test_wrong_numbers(self):
        records = ((RECORD, 4), (RECORD, 3), ([], 1), ([(0, MOST)], 1), ([(-1, 1)], 7), ([(1, MOST)], 2))
        for record, readers in records:
            reads = ends_of(record)[-1]
            for number in [-1, reads + 1, 10 ** 39, -(10 ** 39), 10 ** 5000, nested(20), *NOT_INTEGERS]:
                for rank in (0, readers, None):
                    self.assert_raises_exactly(InvalidNumber, position_range, record, readers, number, rank)
                self.assert_raises_exactly(InvalidNumber, possible_ranks, record, readers, number)
            self.assert_raises_exactly(InvalidNumber, possible_ranks, record, readers, reads)

    def test_wrong_ranks(self):
        for record, readers in ((RECORD, 4), (RECORD, 3), ([], 1), ([(0, MOST)], 1), ([(-1, 1)], 7), ([(1, 5)], 200)):
            for number in {0, ends_of(record)[-1]}:
                for rank in [-1, readers, readers + 1, 10 ** 39, 10 ** 5000, nested(20), *NOT_INTEGERS]:
                    self.assert_raises_exactly(InvalidRank, position_range, record, readers, number, rank)

    def test_impossible_records(self):
        for record, readers, wanted in (
            (RECORD, 1, ("single", 1)), (RECORD, 2, ("two", 3)), (RECORD, 3, ("few", 5)), (RECORD, 6, ("many", 6)),
            ([(-1, MOST)], 200, ("many", 1)), ([(1, MOST), (0, MOST), (1, 1), (0, 2)], 3, ("few", 2 * MOST + 3)),
        ):
            reads = ends_of(record)[-1]
            for number in (0, 1, reads - 1, reads):
                for rank in {0, readers // 2, readers - 1}:
                    error = self.assert_raises_exactly(Impossible, position_range, record, readers, number, rank)
                    self.assert_same(error.obstruction, wanted)
                if number < reads:
                    error = self.assert_raises_exactly(Impossible, possible_ranks, record, readers, number)
                    self.assert_same(error.obstruction, wanted)


if __name__ == "__main__":
    unittest.main()
