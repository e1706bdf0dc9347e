"""[21]: the console."""

import unittest
from random import Random

from teesizes.console import Console
from teesizes.errors import InvalidCommand, InvalidName, InvalidNames, NothingToUndo
from teesizes.possible import possible_readers
from teesizes.texts import parse_record
from tests.helper import Checks, NOT_NAMES, NOT_STRINGS, names_for, wrong_names
from tests.slow_source import SlowSource
from tests.test_texts import record_text

WORDS = ["undo", "size", "order", "record", "possible"]
# Lines that are none, whatever the names of the readers are.
NOT_LINES = [
    "", " ", "  ", "read", "position", "read ", "position ", " read ann", "read  ann", "read ann ", "read\tann",
    "read\nann", "readann", "read ann bob", "read ann ann", "read read ann", "position ann bob",
    "position position ann", "ann", "ann bob", "Read ann", "READ ann", "read Ann", "read ANN", "read anN", "read a1",
    "read abcdefghi", "position abcdefghi", "read a-b", "read 0", "position 1", "Position ann", "reads ann", "pos ann",
    "read,ann", "read ann,", "read: ann", "undo undo", "undo ann", "size ann", "order ann", "record ann",
    "possible ann", "size order", "ann read", "ann position", "none", "ok", "exit", "undo 1", "read ann\n", "undo\n",
    "\nundo", "size\t", "record 4", "possible 4", "readb ann", *[word.upper() for word in WORDS],
    *[word.title() for word in WORDS], *[word + " " for word in WORDS], *[" " + word for word in WORDS],
    *[word[:-1] for word in WORDS], *[word + "s" for word in WORDS], *[f"{word} {word}" for word in WORDS],
    *["read " + name for name in NOT_NAMES if isinstance(name, str)],
    *["position " + name for name in NOT_NAMES if isinstance(name, str)],
]


def states_of(console, names):
    """Return the answers to all lines that change nothing."""
    lines = ["size", "order", "record", "possible", *["position " + name for name in names]]
    return [console.execute(line) for line in lines]


def wanted_answers(slow):
    """Return what the same lines must answer, as a slow source says."""
    least, greatest = possible_readers(slow.record())
    numbers = f"{least} -" if greatest is None else f"{least} {greatest}"
    record = record_text(slow.record()) if slow.history else "none"
    return [str(slow.size()), " ".join(slow.order()), record, numbers, *map(str, slow.positions())]


class ExamplesTest(Checks, unittest.TestCase):

    def test_example(self):
        console = Console("ann", "bob", "cy")
        lines = ["read bob", "read ann", "record", "possible", "order"]
        self.assert_same([console.execute(line) for line in lines], ["0", "0", "u1 s1", "3 -", "ann bob cy"])


class LinesTest(Checks, unittest.TestCase):

    def test_before_the_first_read(self):
        console = Console("cy", "ann")
        self.assert_same(states_of(console, ["cy", "ann"]), ["0", "cy ann", "none", "1 -", "0", "0"])

    def test_each_line(self):
        console = Console("ann", "bob", "cy")
        for line, answer in (
            ("read bob", "0"), ("read bob", "1"), ("size", "2"), ("order", "bob ann cy"), ("record", "u2"),
            ("possible", "2 -"), ("position bob", "2"), ("position ann", "0"), ("read ann", "0"), ("record", "u2 s1"),
            ("possible", "3 -"), ("read cy", "0"), ("record", "u2 s1 d1"), ("possible", "3 3"), ("size", "1"),
            ("undo", "ok"), ("record", "u2 s1"), ("undo", "ok"), ("undo", "ok"), ("undo", "ok"), ("record", "none"),
            ("order", "ann bob cy"),
        ):
            self.assert_same(console.execute(line), answer)

    def test_one_reader(self):
        console = Console("a")
        self.assert_same([console.execute("read a") for _ in range(3)], ["0", "1", "2"])
        self.assert_same(states_of(console, ["a"]), ["0", "a", "s3", "1 1", "3"])

    def test_names_that_are_words_of_lines(self):
        console = Console("undo", "read", "none", "ok")
        for line, answer in (
            ("read read", "0"), ("read undo", "0"), ("position read", "1"), ("position ok", "0"), ("undo", "ok"),
            ("order", "read undo none ok"),
        ):
            self.assert_same(console.execute(line), answer)

    def test_many_names(self):
        for many in (1, 12, 200):
            names = names_for(many)
            console = Console.with_names(names)
            self.assert_same(console.execute("order"), " ".join(names))
            self.assert_same(console.execute("read " + names[-1]), "0")
            self.assert_same(console.execute("order"), " ".join([names[-1], *names[:-1]]))

    def test_300_lines(self):
        for readers in (1, 2, 3, 5, 12, 200):
            random = Random(readers + 21)
            names = names_for(readers)
            console, slow = Console.with_names(names), SlowSource(names)
            for number in range(300):
                if slow.history and random.randrange(8) == 0:
                    slow.undo()
                    self.assert_same(console.execute("undo"), "ok")
                else:
                    name = random.choice(names)
                    self.assert_same(console.execute("read " + name), str(slow.read(name)))
                if number // 10 * 10 == number or number > 297:
                    self.assert_same(states_of(console, names), wanted_answers(slow))
            while slow.history:
                slow.undo()
                self.assert_same(console.execute("undo"), "ok")
            self.assert_same(states_of(console, names), wanted_answers(slow))

    def test_300_reads_in_300_runs(self):
        console = Console("a", "b")
        for _ in range(150):
            self.assert_same([console.execute("read a"), console.execute("size")][1], "1")
            self.assert_same([console.execute("read b"), console.execute("size")][1], "0")
        self.assert_same(console.execute("record"), " ".join(["u1 d1"] * 150))
        self.assert_same(console.execute("possible"), "2 2")


class ErrorsTest(Checks, unittest.TestCase):

    def console(self):
        console = Console("ann", "bob")
        for line in ("read bob", "read bob", "read ann"):
            console.execute(line)
        return console

    def test_wrong_lines(self):
        console = self.console()
        before = states_of(console, ["ann", "bob"])
        for line in [*NOT_LINES, *NOT_STRINGS, "read " * 800, "undo " * 800, ["read", "ann"], ("undo",), b"undo"]:
            self.assert_raises_exactly(InvalidCommand, console.execute, line)
        self.assert_same(states_of(console, ["ann", "bob"]), before)
        self.assert_same([console.execute("undo") for _ in range(3)], ["ok"] * 3)
        self.assert_raises_exactly(NothingToUndo, console.execute, "undo")

    def test_names_that_are_no_readers(self):
        console = self.console()
        before = states_of(console, ["ann", "bob"])
        for name in ("cy", "an", "anna", "a", "zzzzzzzz", "abcdefgh", "read", "undo", "none"):
            for word in ("read", "position"):
                self.assert_raises_exactly(InvalidName, console.execute, f"{word} {name}")
        self.assert_same(states_of(console, ["ann", "bob"]), before)

    def test_nothing_to_undo(self):
        console = Console("ann")
        for _ in range(2):
            self.assert_raises_exactly(NothingToUndo, console.execute, "undo")
            self.assert_same(states_of(console, ["ann"]), ["0", "ann", "none", "1 -", "0"])
        self.assert_same([console.execute("read ann"), console.execute("undo")], ["0", "ok"])
        self.assert_raises_exactly(NothingToUndo, console.execute, "undo")

    def test_wrong_names(self):
        self.assert_raises_exactly(InvalidNames, Console)
        for names in (("ann", "ann"), (["ann", "bob"],), ("ann", ["bob"])):
            self.assert_raises_exactly(InvalidNames, Console, *names)
        for name in NOT_NAMES:
            self.assert_raises_exactly(InvalidNames, Console, "ann", name)
            self.assert_raises_exactly(InvalidNames, Console, name)
        for names in wrong_names():
            self.assert_raises_exactly(InvalidNames, Console.with_names, names)


class ArgumentsTest(Checks, unittest.TestCase):

    def test_with_names(self):
        names = ["cy", "ann"]
        console, other = Console.with_names(names), Console.with_names(tuple(names))
        self.assertEqual(names, ["cy", "ann"])
        names[:] = ["bob"]
        for one in (console, other):
            self.assertIs(type(one), Console)
            self.assert_same(one.execute("order"), "cy ann")

    def test_consoles_are_independent(self):
        first, second = Console("ann", "bob"), Console("ann", "bob")
        first.execute("read bob")
        self.assert_same([first.execute("order"), second.execute("order")], ["bob ann", "ann bob"])

    def test_answers_may_be_passed_again(self):
        console = Console("bob", "ann")
        for name in console.execute("order").split(" "):
            self.assert_same(console.execute("read " + name), "0")
        for line in ("order", "record", "possible", "size"):
            self.assert_raises_exactly(InvalidCommand, console.execute, console.execute(line))
        self.assert_same(parse_record(console.execute("record")), [(1, 1), (-1, 1)])


if __name__ == "__main__":
    unittest.main()
