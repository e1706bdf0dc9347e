"""[19]: sources whose buffer has at most so many items."""

import unittest
from random import Random

from teesizes.errors import BufferFull, InvalidHistory, InvalidName, InvalidNames, InvalidNumber, NothingToUndo
from teesizes.live import LimitedSource, Source
from tests.helper import Checks, NOT_INTEGERS, NOT_NAMES, Thing, lists_of, names_for, nested, wrong_names
from tests.slow_source import SlowSource, SourceChecks

WRONG_LIMITS = [-1, -2, 10 ** 30 + 1, 10 ** 39, 10 ** 5000, -(10 ** 5000), nested(20), *NOT_INTEGERS]


class ExamplesTest(Checks, unittest.TestCase):

    def test_example(self):
        source = LimitedSource(1, "ann", "bob")
        self.assert_same(source.read_item("ann"), 0)
        self.assert_same(self.assert_raises_exactly(BufferFull, source.read_item, "ann").most, 1)


class ReadingTest(Checks, SourceChecks, unittest.TestCase):

    def read(self, source, slow, name, limit):
        """Read as [19] says, and return whether the buffer was full."""
        if slow.grows(name) and slow.size() == limit:
            self.assert_same(self.assert_raises_exactly(BufferFull, source.read_item, name).most, limit)
            return True
        self.assert_same(source.read_item(name), slow.read(name))
        return False

    def test_all_small_histories(self):
        for readers, reads in ((1, 3), (2, 6), (3, 5), (4, 4)):
            names = names_for(readers)
            for limit in range(4):
                for history in lists_of(names, reads):
                    source, slow = LimitedSource(limit, *names), SlowSource(names)
                    for name in history:
                        self.read(source, slow, name, limit)
                        self.assert_like(source, slow)
                        self.assertLessEqual(source.size, limit)

    def test_long_histories(self):
        for readers in (2, 3, 12, 200):
            for limit in (1, 2, 5):
                random = Random(readers + limit)
                names = names_for(readers)
                source, slow = LimitedSource.with_names(limit, names), SlowSource(names)
                full = 0
                while len(slow.history) < 200:
                    full += self.read(source, slow, random.choice(names), limit)
                    self.assert_like(source, slow, names[:3])
                # So many readers seldom take all the room.
                self.assertTrue(full > 0 or readers == 200)

    def test_limit_0(self):
        source, slow = LimitedSource(0, "ann", "bob"), SlowSource(["ann", "bob"])
        for name in ("ann", "bob", "ann"):
            self.assert_same(self.assert_raises_exactly(BufferFull, source.read_item, name).most, 0)
            self.assert_like(source, slow)
        self.assert_raises_exactly(NothingToUndo, source.undo)
        # The buffer of one reader never has an item.
        source = LimitedSource(0, "ann")
        self.assertEqual([source.read_item("ann") for _ in range(300)], list(range(300)))

    def test_greatest_limit(self):
        source = LimitedSource(10 ** 30, "ann", "bob")
        self.assertEqual([source.read_item("ann") for _ in range(300)], list(range(300)))
        self.assertEqual((source.limit, source.size), (10 ** 30, 300))

    def test_full_only_where_it_would_become_greater(self):
        source = LimitedSource(2, "ann", "bob", "cy")
        for name in ("ann", "ann", "bob", "bob", "cy"):
            source.read_item(name)
        self.assertEqual(source.size, 1)
        source.read_item("bob")
        self.assert_raises_exactly(BufferFull, source.read_item, "bob")
        self.assertEqual(source.read_item("ann"), 2)
        self.assert_raises_exactly(BufferFull, source.read_item, "ann")
        self.assertEqual(source.read_item("cy"), 1)
        self.assertEqual(source.read_item("ann"), 3)
        self.assert_raises_exactly(BufferFull, source.read_item, "ann")
        source.undo()
        self.assertEqual(source.read_item("ann"), 3)

    def test_names_before_the_limit(self):
        source, slow = LimitedSource(0, "ann", "bob"), SlowSource(["ann", "bob"])
        for value in ["cy", "an", *NOT_NAMES]:
            for method in (source.read_item, source.position_of, source.rank_of):
                self.assert_raises_exactly(InvalidName, method, value)
        self.assert_like(source, slow)

    def test_undo(self):
        source, slow = LimitedSource(2, "a", "b"), SlowSource(["a", "b"])
        for name in "aababbab":
            source.read_item(name)
            slow.read(name)
        while slow.history:
            self.assertIsNone(source.undo())
            slow.undo()
            self.assert_like(source, slow)
        self.assert_raises_exactly(NothingToUndo, source.undo)


class DuplicateTest(Checks, SourceChecks, unittest.TestCase):

    def test_it_keeps_the_class_and_the_limit(self):
        for limit in (0, 1, 7, 10 ** 30):
            twin = LimitedSource(limit, "ann", "bob").duplicate()
            self.assertIs(type(twin), LimitedSource)
            self.assert_same(twin.limit, limit)
            self.assertTrue(twin == LimitedSource(limit, "ann", "bob"))

    def test_it_is_independent(self):
        source, slow, other = LimitedSource(2, "a", "b"), SlowSource(["a", "b"]), SlowSource(["a", "b"])
        for name in "aaba":
            source.read_item(name)
            slow.read(name)
            other.read(name)
        twin = source.duplicate()
        self.assert_like(twin, other)
        self.assert_same(self.assert_raises_exactly(BufferFull, twin.read_item, "a").most, 2)
        twin.read_item("b")
        other.read("b")
        self.assert_like(source, slow)
        self.assert_like(twin, other)
        while other.history:
            twin.undo()
            other.undo()
            self.assert_like(twin, other)
        self.assert_raises_exactly(NothingToUndo, twin.undo)
        self.assert_like(source, slow)


class ClassMethodsTest(Checks, SourceChecks, unittest.TestCase):

    def test_with_names(self):
        for names in (["cy", "ann"], ("cy", "ann"), names_for(200), names_for(1)):
            source = LimitedSource.with_names(3, names)
            self.assertIs(type(source), LimitedSource)
            self.assert_same(source.limit, 3)
            self.assert_same(source.names_in_order(), list(names))
        names = ["cy", "ann"]
        source = LimitedSource.with_names(3, names)
        names[:] = ["bob"]
        self.assertEqual(source.names_in_order(), ["cy", "ann"])

    def test_from_history(self):
        source = LimitedSource.from_history(["ann", "bob"], ["ann"] * 300)
        self.assertIs(type(source), Source)
        self.assertTrue(source == Source.from_history(["ann", "bob"], ["ann"] * 300))
        self.assertEqual(source.read_item("ann"), 300)
        self.assertIs(hasattr(source, "limit"), False)
        made = LimitedSource(1, "cy").from_history(("ann",), ("ann",))
        self.assertIs(type(made), Source)

    def test_errors_of_from_history(self):
        for names in wrong_names():
            self.assert_raises_exactly(InvalidNames, LimitedSource.from_history, names, None)
        for history in (["ann"] * 301, ["cy"], [0], None, "ann", nested(20)):
            self.assert_raises_exactly(InvalidHistory, LimitedSource.from_history, ["ann", "bob"], history)

    def test_most_readers(self):
        self.assert_same(LimitedSource.MOST_READERS, 200)

    def test_it_is_a_source(self):
        self.assertEqual(LimitedSource.__bases__, (Source,))


class EqualityTest(Checks, unittest.TestCase):

    def assert_equality(self, first, second, wanted):
        for left, right in ((first, second), (second, first)):
            self.assertIs(left == right, wanted)
            self.assertIs(left != right, not wanted)

    def test_limits(self):
        limits = (0, 1, 2, 10 ** 30)
        for first in limits:
            for second in limits:
                self.assert_equality(LimitedSource(first, "a", "b"), LimitedSource(second, "a", "b"), first == second)

    def test_readers_and_positions(self):
        first, second = LimitedSource(3, "a", "b", "c"), LimitedSource(3, "a", "b", "c")
        for name in "abca":
            first.read_item(name)
            self.assert_equality(first, second, False)
        for name in "caab":
            self.assert_equality(first, second, False)
            second.read_item(name)
        self.assert_equality(first, second, True)
        for names in (("b", "a"), ("a",), ("a", "c"), ("a", "b", "c")):
            self.assert_equality(LimitedSource(3, "a", "b"), LimitedSource(3, *names), False)

    def test_other_values(self):
        source = LimitedSource(1, "ann")
        for value in [None, 1, "ann", ["ann"], (1, "ann"), Thing(), LimitedSource, Source("ann")]:
            self.assert_equality(source, value, False)
        self.assert_equality(source, LimitedSource.from_history(["ann"], []), False)


class ErrorsTest(Checks, unittest.TestCase):

    def test_limits(self):
        for limit in (0, 1, 2, 10 ** 30 - 1, 10 ** 30):
            self.assert_same(LimitedSource(limit, "ann").limit, limit)
            self.assert_same(LimitedSource.with_names(limit, ["ann"]).limit, limit)

    def test_wrong_limits(self):
        for limit in WRONG_LIMITS:
            for names in (("ann", "bob"), (), ("ann", "ann"), ("A",), (None,)):
                self.assert_raises_exactly(InvalidNumber, LimitedSource, limit, *names)
            for names in (["ann"], [], None, "ann", ["ann", "ann"], names_for(201)):
                self.assert_raises_exactly(InvalidNumber, LimitedSource.with_names, limit, names)

    def test_wrong_names(self):
        for limit in (0, 10 ** 30):
            self.assert_raises_exactly(InvalidNames, LimitedSource, limit)
            self.assert_raises_exactly(InvalidNames, LimitedSource, limit, "ann", "bob", "ann")
            self.assert_raises_exactly(InvalidNames, LimitedSource, limit, ["ann", "bob"])
            for name in NOT_NAMES:
                self.assert_raises_exactly(InvalidNames, LimitedSource, limit, "ann", name)
            for names in wrong_names():
                self.assert_raises_exactly(InvalidNames, LimitedSource.with_names, limit, names)


if __name__ == "__main__":
    unittest.main()
