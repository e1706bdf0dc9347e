"""[18]: sources with readers that read and revert their reads."""

import unittest
from random import Random

from teesizes.errors import InvalidHistory, InvalidName, InvalidNames, NothingToUndo
from teesizes.histories import record_of
from teesizes.live import LimitedSource, Source
from tests.helper import Checks, NOT_LISTS, NOT_NAMES, Thing, lists_of, names_for, nested, wrong_names
from tests.slow_source import SlowSource, SourceChecks


class AlwaysEqual:
    """An object that says that it is equal to everything."""

    def __eq__(self, other):
        return True


class LikeASource:
    """An object with the attributes and methods of a source, which is none."""

    def __init__(self, source):
        self.__dict__.update(vars(source))

    def __getattr__(self, name):
        return getattr(Source, name).__get__(self)


def random_names(names, many, random):
    """Return so many of the names, some of them more often than the other ones."""
    favourites = random.sample(names, min(len(names), 3))
    return [random.choice(random.choice([names, favourites])) for _ in range(many)]


class ExamplesTest(Checks, unittest.TestCase):

    def test_examples(self):
        source = Source("ann", "bob", "cy")
        items = [source.read_item("bob"), source.read_item("bob"), source.read_item("ann")]
        self.assert_same(
            [items, source.size, source.names_in_order(), source.current_record(), len(source)],
            [[0, 1, 0], 2, ["bob", "ann", "cy"], [(1, 2), (0, 1)], 3],
        )
        source = Source.from_history(["ann", "bob"], ["ann", "bob"])
        self.assert_same([source.size, source.is_even, source.rank_of("bob"), Source.MOST_READERS], [0, True, 0, 200])


class ReadingTest(Checks, SourceChecks, unittest.TestCase):

    def test_all_small_histories(self):
        for readers, most in ((1, 4), (2, 5), (3, 4), (4, 3)):
            names = names_for(readers)
            for history in lists_of(names, most):
                source, slow = Source(*names), SlowSource(names)
                self.assert_like(source, slow)
                for name in history:
                    self.assert_same(source.read_item(name), slow.read(name))
                    self.assert_like(source, slow)
                self.assert_like(Source.from_history(names, history), slow)

    def test_long_histories(self):
        for readers in (1, 2, 3, 7, 12, 50, 200):
            random = Random(readers)
            names = random.sample(names_for(200), readers)
            source = Source.from_history(names, []) if readers > 12 else Source(*names)
            slow = SlowSource(names)
            for number, name in enumerate(random_names(names, 300, random)):
                self.assert_same(source.read_item(name), slow.read(name))
                if readers < 20 or number > 295 or number // 30 * 30 == number:
                    self.assert_like(source, slow)

    def test_readers_at_the_same_position_stay_in_the_order_given(self):
        source = Source("cy", "ann", "dee", "bob")
        self.assertEqual(source.names_in_order(), ["cy", "ann", "dee", "bob"])
        for name, wanted in (
            ("bob", "bob cy ann dee"), ("dee", "dee bob cy ann"), ("bob", "bob dee cy ann"), ("ann", "bob ann dee cy"),
            ("cy", "bob cy ann dee"), ("dee", "dee bob cy ann"), ("cy", "cy dee bob ann"), ("ann", "cy ann dee bob"),
        ):
            source.read_item(name)
            self.assertEqual(source.names_in_order(), wanted.split(" "))

    def test_one_reader(self):
        source = Source("a")
        self.assertEqual([source.read_item("a") for _ in range(300)], list(range(300)))
        self.assertEqual((source.size, source.is_even, source.rank_of("a")), (0, True, 0))
        self.assert_same(source.current_record(), [(0, 300)])

    def test_200_readers(self):
        names = names_for(200)
        source = Source.from_history(names, names[::-1] + names[:50])
        self.assertEqual(source.names_in_order(), names)
        self.assertEqual([source.rank_of(name) for name in names], [0] * 50 + [50] * 150)
        self.assert_same(source.current_record(), [(1, 1), (0, 198), (-1, 1), (1, 1), (0, 49)])

    def test_more_reads_than_a_history_has(self):
        # 300 reads of from_history and 300 more: the record has few runs and the history many reads.
        source = Source.from_history(["a", "b"], ["a"] * 300)
        for _ in range(300):
            source.read_item("b")
        self.assert_same(source.current_record(), [(1, 300), (-1, 300)])
        self.assertEqual((len(source), source.is_even), (600, True))
        self.assertEqual(source.current_history(), ["a"] * 300 + ["b"] * 300)
        self.assert_raises_exactly(InvalidHistory, Source.from_history, ["a", "b"], source.current_history())

    def test_records_of_200_runs(self):
        history = ["a", "b"] * 100
        source = Source("a", "b")
        for name in history:
            source.read_item(name)
        self.assertEqual(source.current_record(), record_of(2, [0, 1] * 100))

    def test_values_that_are_no_names_of_readers(self):
        source, slow = Source("ann", "bob", "cy"), SlowSource(["ann", "bob", "cy"])
        for name in ("bob", "bob", "ann"):
            source.read_item(name)
            slow.read(name)
        for value in ["dee", "an", "anne", "a", "zzzzzzzz", ["ann"], 0, 1, *NOT_NAMES]:
            for method in (source.read_item, source.position_of, source.rank_of):
                self.assert_raises_exactly(InvalidName, method, value)
        self.assert_like(source, slow)


class UndoTest(Checks, SourceChecks, unittest.TestCase):

    def undo_all(self, source, slow):
        while slow.history:
            self.assertIsNone(source.undo())
            slow.undo()
            self.assert_like(source, slow, random_names(slow.names, 3, Random(len(slow.history))))
        for _ in range(2):
            self.assert_raises_exactly(NothingToUndo, source.undo)
        self.assert_like(source, slow)

    def test_nothing_to_undo(self):
        for source in (Source("a"), Source("a", "b"), Source.from_history(["a", "b"], [])):
            self.assert_raises_exactly(NothingToUndo, source.undo)
            self.assert_raises_exactly(NothingToUndo, source.undo)
            self.assertEqual(source.read_item("a"), 0)
            self.assertIsNone(source.undo())
            self.assert_raises_exactly(NothingToUndo, source.undo)

    def test_back_to_the_beginning(self):
        for readers in (1, 2, 3, 12):
            names = names_for(readers)
            source, slow = Source(*names), SlowSource(names)
            for name in random_names(names, 150, Random(readers)):
                source.read_item(name)
                slow.read(name)
            self.undo_all(source, slow)

    def test_back_over_the_reads_of_from_history(self):
        for readers in (1, 2, 5, 200):
            names = names_for(readers)
            history = random_names(names, 300, Random(readers + 1))
            slow = SlowSource(names)
            for name in history:
                slow.read(name)
            source = Source.from_history(names, history)
            self.assert_like(source, slow)
            self.undo_all(source, slow)

    def test_back_over_the_reads_of_a_duplicate(self):
        names = names_for(4)
        history = random_names(names, 200, Random(4))
        source, slow, other = Source.from_history(names, history), SlowSource(names), SlowSource(names)
        for name in history:
            slow.read(name)
            other.read(name)
        for name in random_names(names, 60, Random(5)):
            self.assertEqual(source.read_item(name), slow.read(name))
            other.read(name)
        twin = source.duplicate()
        self.undo_all(twin, other)
        self.assert_like(source, slow)
        self.undo_all(source, slow)

    def test_reads_and_undos_mixed(self):
        for readers in (1, 2, 3, 8):
            random = Random(readers + 7)
            names = names_for(readers)
            source, slow = Source(*names), SlowSource(names)
            for _ in range(300):
                if slow.history and random.randrange(5) < 2:
                    self.assertIsNone(source.undo())
                    slow.undo()
                else:
                    name = random.choice(names)
                    self.assertEqual(source.read_item(name), slow.read(name))
                self.assert_like(source, slow)


class DuplicateTest(Checks, SourceChecks, unittest.TestCase):

    def test_it_is_independent(self):
        names = ["cy", "ann", "bob"]
        history = ["ann", "ann", "bob", "cy", "bob"]
        source, slow, other = Source.from_history(names, history), SlowSource(names), SlowSource(names)
        for name in history:
            slow.read(name)
            other.read(name)
        twin = source.duplicate()
        self.assertIs(type(twin), Source)
        self.assertIsNot(twin, source)
        self.assert_like(twin, slow)
        self.assertTrue(twin == source)
        for name in ("cy", "cy", "ann"):
            twin.read_item(name)
            other.read(name)
            self.assert_like(source, slow)
            self.assert_like(twin, other)
        source.undo()
        slow.undo()
        self.assert_like(source, slow)
        self.assert_like(twin, other)
        third = twin.duplicate().duplicate()
        twin.undo()
        self.assert_like(third, other)

    def test_a_duplicate_of_a_new_source(self):
        twin = Source("a", "b").duplicate()
        self.assert_like(twin, SlowSource(["a", "b"]))
        self.assert_raises_exactly(NothingToUndo, twin.undo)

    def test_300_reads_of_a_duplicate(self):
        source = Source.from_history(["a", "b"], ["a"] * 300)
        for _ in range(300):
            source.read_item("b")
        twin = source.duplicate()
        for _ in range(300):
            twin.read_item("a")
        self.assert_same(twin.current_record(), [(1, 300), (-1, 300), (1, 300)])
        self.assertEqual((len(source), len(twin), source.size, twin.size), (600, 900, 0, 300))


class EqualityTest(Checks, unittest.TestCase):

    def assert_equality(self, first, second, wanted):
        for left, right in ((first, second), (second, first)):
            self.assertIs(left == right, wanted)
            self.assertIs(left != right, not wanted)

    def test_all_small_histories(self):
        names = names_for(3)
        histories = [history for length in range(4) for history in lists_of(names, length)]
        sources = [Source.from_history(names, history) for history in histories]
        for first, one in zip(histories, sources):
            for second, other in zip(histories, sources):
                self.assert_equality(one, other, sorted(first) == sorted(second))

    def test_reverted_reads_do_not_count(self):
        source = Source("a", "b")
        source.read_item("a")
        self.assert_equality(source, Source("a", "b"), False)
        source.undo()
        self.assert_equality(source, Source("a", "b"), True)

    def test_names_and_their_order(self):
        self.assert_equality(Source("ann", "bob"), Source("ann", "bob"), True)
        for names in (("bob", "ann"), ("ann",), ("bob",), ("ann", "bob", "cy"), ("ann", "bo"), ("ann", "cy")):
            self.assert_equality(Source("ann", "bob"), Source(*names), False)
        history = ["ann", "bob", "ann"]
        first = Source.from_history(["ann", "bob"], history)
        self.assert_equality(first, Source.from_history(["bob", "ann"], history), False)
        # The positions are the same ones, but those of other readers.
        self.assert_equality(first, Source.from_history(["bob", "ann"], ["bob", "bob", "ann"]), False)

    def test_other_values(self):
        source = Source("ann")
        for value in [None, True, 0, 1, "ann", ["ann"], ("ann",), {"ann": 0}, Thing(), Source, LikeASource(source)]:
            self.assert_equality(source, value, False)
        self.assertIs(source == AlwaysEqual(), False)
        self.assertIs(source != AlwaysEqual(), True)
        self.assertIs(source in [None, "ann", ["ann"]], False)
        self.assertIs(source in [None, Source("ann")], True)

    def test_a_subclass_of_a_caller(self):
        class Other(Source):
            """A source like the ones above."""

        self.assert_equality(Other("ann"), Source("ann"), True)
        self.assert_equality(Other("ann"), Other("ann"), True)
        self.assert_equality(Other("ann"), Source("bob"), False)

    def test_limited_sources(self):
        for limit in (0, 1, 10 ** 30):
            self.assert_equality(Source("ann"), LimitedSource(limit, "ann"), False)
            self.assertIs(Source("ann").__eq__(LimitedSource(limit, "ann")), False)
            self.assertIs(LimitedSource(limit, "ann").__eq__(Source("ann")), False)


class ArgumentsTest(Checks, SourceChecks, unittest.TestCase):

    def test_lists_may_be_changed_afterwards(self):
        names, history = ["ann", "bob"], ["bob", "bob", "ann"]
        source, slow = Source.from_history(names, history), SlowSource(names)
        for name in history:
            slow.read(name)
        self.assertEqual((names, history), (["ann", "bob"], ["bob", "bob", "ann"]))
        names[:] = ["cy"]
        history.append("cy")
        self.assert_like(source, slow)
        self.assert_raises_exactly(InvalidName, source.read_item, "cy")

    def test_results_belong_to_the_caller(self):
        names, history = ["ann", "bob"], ["bob", "bob", "ann"]
        source, slow = Source.from_history(names, history), SlowSource(names)
        for name in history:
            slow.read(name)
        for method in (source.names_in_order, source.current_history, source.current_record):
            result = method()
            result.reverse()
            result.append("more")
            result[0] = None
            self.assert_like(source, slow)

    def test_lists_and_tuples(self):
        names, history = ["ann", "bob", "cy"], ["cy", "ann", "cy"]
        wanted = Source.from_history(names, history)
        for first in (names, tuple(names)):
            for second in (history, tuple(history)):
                self.assertTrue(Source.from_history(first, second) == wanted)

    def test_results_may_be_passed_again(self):
        source = Source.from_history(["ann", "bob", "cy"], ["cy", "ann", "cy"])
        again = Source.from_history(source.names_in_order(), source.current_history())
        self.assertEqual(again.names_in_order(), source.names_in_order())
        self.assert_same(again.current_record(), [(1, 1), (0, 1), (1, 1)])
        self.assertEqual(Source(*source.names_in_order()).names_in_order(), ["cy", "ann", "bob"])


class NamesTest(Checks, unittest.TestCase):

    def test_names(self):
        for name in ("a", "z", "abcdefgh", "zzzzzzzz", "read", "none", "abcdefghijklmnopqrstuvwxyz"[18:]):
            self.assertEqual(Source(name).names_in_order(), [name])
            self.assertEqual(Source("bob", name).names_in_order(), ["bob", name])

    def test_each_sign(self):
        for sign in map(chr, range(128)):
            for name in (sign, "ann" + sign, sign + "ann"):
                if "a" <= sign <= "z":
                    self.assertEqual(Source(name).names_in_order(), [name])
                else:
                    self.assert_raises_exactly(InvalidNames, Source, name)

    def test_numbers_of_names(self):
        for many in (1, 2, 12, 199, 200):
            names = names_for(many)
            self.assertEqual(Source.from_history(names, []).names_in_order(), names)
            if many < 13:
                self.assertEqual(Source(*names).names_in_order(), names)

    def test_wrong_names(self):
        self.assert_raises_exactly(InvalidNames, Source)
        for names in (("ann", "ann"), ("ann", "bob", "ann"), (["ann", "bob"],), ("ann", ["bob"]), (("ann",),)):
            self.assert_raises_exactly(InvalidNames, Source, *names)
        for name in NOT_NAMES:
            for names in ((name,), ("ann", name), (name, "ann", "bob"), (name, name)):
                self.assert_raises_exactly(InvalidNames, Source, *names)

    def test_wrong_lists_of_names(self):
        for names in wrong_names():
            for history in ([], ["ann"], ["zed"], None, 5):
                self.assert_raises_exactly(InvalidNames, Source.from_history, names, history)

    def test_wrong_histories(self):
        wrong = [*NOT_LISTS, nested(20), "ann", ["ann"] * 301, ["ann", "bob"] * 151, ["zed"] * 301, [["ann"]], [0, 1]]
        for name in ["cy", "an", *NOT_NAMES]:
            wrong += [[name], ["ann", name], (name, "bob"), ["ann"] * 299 + [name]]
        for history in wrong:
            self.assert_raises_exactly(InvalidHistory, Source.from_history, ["ann", "bob"], history)
        for history in (["ann"] * 300, ("ann", "bob") * 150, [], ()):
            self.assertEqual(Source.from_history(["ann", "bob"], history).current_history(), list(history))


if __name__ == "__main__":
    unittest.main()
