"""That the parts of the program agree with one another about the same reads."""

import unittest

from teesizes.console import Console
from teesizes.counting import all_ranks, count_histories, count_ranks, nth_ranks, ranks_index
from teesizes.errors import Impossible
from teesizes.histories import (
    count_words, greatest_size, history_by, is_history, is_ranks, positions_after, ranks_of, record_of,
)
from teesizes.live import LimitedSource, Source
from teesizes.possible import is_possible, obstruction, obstructs, possible_readers
from teesizes.ranges import position_range, possible_ranks
from teesizes.records import changes_by, count_reads, is_record, joined, record_by, totals_after
from teesizes.states import even_state, fits, misfit
from teesizes.texts import format_record, format_state, parse_record, parse_state
from tests.helper import Checks, lists_of, names_for
from tests.walks import small_states

SIZES = [(1, 4), (2, 5), (3, 5), (4, 5), (5, 4), (6, 4)]


def state_of(positions):
    """Return the state of readers with these positions."""
    return sorted(positions, reverse=True)


def records_with(readers, reads):
    """Return the lists of the histories with each record, by the text of the record."""
    found = {}
    for history in lists_of(range(readers), reads):
        found.setdefault(format_record(record_of(readers, history)), []).append(history)
    return found


class HistoriesTest(Checks, unittest.TestCase):

    def check_record(self, readers, history, record):
        self.assertIs(is_record(record), True)
        self.assertEqual(record_by(changes_by(record)), record)
        self.assertEqual(count_reads(record), len(history))
        self.assertIs(is_possible(record, readers), True)
        self.assertIsNone(obstruction(record, readers))
        least, greatest = possible_readers(record)
        self.assertTrue(least <= readers and (greatest is None or readers <= greatest))
        self.assertEqual(parse_record(format_record(record)), record)

    def check_states(self, readers, history, record):
        ranks = ranks_of(readers, history)
        for number in range(len(history) + 1):
            state = state_of(positions_after(readers, history[:number]))
            first = record_of(readers, history[:number])
            plus, zero, minus = totals_after(record, number)
            self.assertEqual((plus, zero, minus), totals_after(first, number))
            self.assertIs(fits(first, readers, state), True)
            self.assertIsNone(misfit(first, readers, state))
            self.assertEqual(parse_state(format_state(state)), state)
            self.assertEqual(state, [ranks[:number].count(rank) for rank in range(readers)])
            for rank in range(readers):
                least, greatest = position_range(record, readers, number, rank)
                self.assertTrue(least <= state[rank] <= greatest)
            if number < len(history):
                self.assertIn(ranks[number], possible_ranks(record, readers, number))

    def check_ranks(self, readers, history, record):
        ranks = ranks_of(readers, history)
        self.assertIs(is_ranks(readers, ranks), True)
        self.assertEqual(ranks_of(readers, history_by(readers, ranks)), ranks)
        self.assertEqual(nth_ranks(record, readers, ranks_index(record, readers, ranks)), ranks)
        self.assertEqual(record_of(readers, history_by(readers, ranks)), record)

    def test_histories(self):
        for readers, reads in SIZES:
            for history in lists_of(range(readers), reads):
                record = record_of(readers, history)
                self.assertIs(is_history(readers, history), True)
                self.check_record(readers, history, record)
                self.check_states(readers, history, record)
                self.check_ranks(readers, history, record)

    def test_joined_records(self):
        for readers, reads in ((2, 4), (3, 4), (4, 3)):
            for history in lists_of(range(readers), reads):
                changes = changes_by(record_of(readers, history))
                for number in range(reads + 1):
                    parts = [record_by(changes[:number]), record_by(changes[number:])]
                    self.assertEqual(joined(*parts), record_of(readers, history))


class LiveTest(Checks, unittest.TestCase):

    def check_source(self, source, names, history):
        readers = len(names)
        positions = positions_after(readers, history)
        record = record_of(readers, history)
        self.assertEqual([source.position_of(name) for name in names], positions)
        self.assertEqual(source.current_record(), record)
        self.assertEqual(source.current_history(), [names[reader] for reader in history])
        self.assertEqual(source.is_even, source.size == 0)
        plus, _, minus = totals_after(record, len(history))
        self.assertEqual(source.size, plus - minus)
        for reader, name in enumerate(names):
            self.assertEqual(source.rank_of(name), ranks_of(readers, [*history, reader])[-1])
        self.assertEqual([source.position_of(name) for name in source.names_in_order()], state_of(positions))

    def test_sources(self):
        for readers, reads in SIZES:
            names = names_for(readers)
            for history in lists_of(range(readers), reads):
                read = [names[reader] for reader in history]
                source = Source(*names)
                for number, name in enumerate(read):
                    self.check_source(source, names, history[:number])
                    item = positions_after(readers, history[:number])[history[number]]
                    self.assertEqual(source.read_item(name), item)
                self.check_source(source, names, history)
                self.check_source(Source.from_history(names, read), names, history)
                self.assertTrue(source == Source.from_history(names, read))
                source.undo()
                self.check_source(source, names, history[:-1])

    def test_limits(self):
        for readers, reads in SIZES:
            names = names_for(readers)
            for history in lists_of(range(readers), reads):
                most = greatest_size(readers, history)
                source = LimitedSource.with_names(most, names)
                for reader in history:
                    source.read_item(names[reader])
                self.check_source(source, names, history)
                if most > 0:
                    less = LimitedSource.with_names(most - 1, names)
                    with self.assertRaises(ValueError):
                        for reader in history:
                            less.read_item(names[reader])
                    self.assertEqual(less.size, most - 1)

    def test_consoles(self):
        for readers, reads in SIZES:
            names = names_for(readers)
            for history in lists_of(range(readers), reads):
                console, source = Console(*names), Source(*names)
                for reader in history:
                    name = names[reader]
                    self.assertEqual(console.execute("read " + name), str(source.read_item(name)))
                    self.assertEqual(console.execute("position " + name), str(source.position_of(name)))
                record = record_of(readers, history)
                least, greatest = console.execute("possible").split(" ")
                found = (int(least), None if greatest == "-" else int(greatest))
                self.assertEqual(found, possible_readers(record))
                self.assertEqual(parse_record(console.execute("record")), record)
                self.assertEqual(console.execute("size"), str(source.size))
                self.assertEqual(console.execute("order").split(" "), source.names_in_order())


class RecordsTest(Checks, unittest.TestCase):

    def test_histories_with_a_record(self):
        for readers, reads in SIZES:
            for text, histories in records_with(readers, reads).items():
                record = parse_record(text)
                lists = sorted({tuple(ranks_of(readers, history)) for history in histories})
                self.assertEqual(count_histories(record, readers), len(histories))
                self.assertEqual(list(all_ranks(record, readers)), [list(ranks) for ranks in lists])
                self.assertEqual(count_ranks(record, readers), len(lists))
                for number in range(reads):
                    ranks = sorted({one[number] for one in lists})
                    self.assertEqual(possible_ranks(record, readers, number), ranks)

    def test_states_with_a_record(self):
        for readers, reads in ((1, 4), (2, 5), (3, 5), (4, 4), (5, 4)):
            for text, histories in records_with(readers, reads).items():
                record = parse_record(text)
                ends = [state_of(positions_after(readers, history)) for history in histories]
                for state in small_states(readers, reads):
                    self.assertIs(fits(record, readers, state), state in ends)
                self.assertIn(even_state(record, readers), ends)
                for rank in range(readers):
                    entries = [state[rank] for state in ends]
                    self.assertEqual(position_range(record, readers, reads, rank), (min(entries), max(entries)))

    def test_all_records(self):
        for readers, reads in SIZES:
            lists = histories = 0
            for changes in lists_of((1, 0, -1), reads):
                record = record_by(changes)
                count = count_ranks(record, readers)
                lists += count
                histories += count_histories(record, readers)
                found = obstruction(record, readers)
                self.assertIs(is_possible(record, readers), count > 0)
                self.assertIs(found is None, count > 0)
                if found is not None:
                    self.assertIs(obstructs(record, readers, found), True)
                    error = self.assert_raises_exactly(Impossible, even_state, record, readers)
                    self.assert_same(error.obstruction, found)
            states = [state for state in small_states(readers, reads) if sum(state) == reads]
            self.assertEqual(lists, sum(count_words(state) for state in states))
            self.assertEqual(histories, readers ** reads)

    def test_numbers_of_readers(self):
        for changes in lists_of((1, 0, -1), 5):
            record = record_by(changes)
            numbers = [readers for readers in range(1, 7) if count_ranks(record, readers) > 0]
            bounds = possible_readers(record)
            if bounds is None:
                self.assertEqual(numbers, [])
            else:
                least, greatest = bounds
                most = 6 if greatest is None else min(6, greatest)
                self.assertEqual(numbers, list(range(least, most + 1)))


if __name__ == "__main__":
    unittest.main()
