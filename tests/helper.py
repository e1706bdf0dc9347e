"""What several tests need: wrong values, and slow readings of the definitions."""

from itertools import product


def nested(depth):
    """Return a list within a list, so many levels deep."""
    value = []
    for _ in range(depth - 1):
        value = [value]
    return value


class Thing:
    """An object that no function knows."""


NOT_INTEGERS = [
    None, True, False, "", "1", "abc", b"", b"\x01", [], [1], (), (1,), {}, {1: 1}, set(), {1}, frozenset([1]),
    Thing(), Thing, int, len, Ellipsis, range(3), nested(20), ({"a": [(1, None)]},), ValueError("x"), lambda n: n,
]

NOT_LISTS = [
    None, True, False, 0, 1, -1, 10 ** 50, -(10 ** 5000), "", "01", "abc", b"", b"\x00", {}, {0: 0}, set(), {0},
    frozenset([0]), Thing(), Thing, list, len, Ellipsis, range(1), iter([0]), ValueError("x"), lambda n: n,
]


NOT_STRINGS = [
    None, True, False, 0, 1, -1, 10 ** 50, -(10 ** 5000), b"", b"ann", b"u1", b"undo", [], ["ann"], ["u1"], (),
    ("ann",), {}, {"ann": 1}, set(), {"ann"}, frozenset(["ann"]), Thing(), Thing, str, len, Ellipsis, range(3),
    iter(["ann"]), nested(20), (["ann", ({"a": [None]},)],), ValueError("ann"), lambda name: name,
]

NOT_NAMES = [
    "", "abcdefghi", "abcdefgh" * 500, "Ann", "anN", "ANN", "a1", "1", "0", "a_b", "a-b", "a b", " ann", "ann ", " ",
    "ann\n", "@", "`", "{", "a.b", "\u00e4nn", "\u00df", *NOT_STRINGS,
]


WRONG_RUNS = [
    (), (1,), (1, 1, 1), (2, 1), (-2, 1), (10 ** 5000, 1), (1, 0), (0, -1), (1, 10 ** 30 + 1), (1, 10 ** 5000), [1, 0],
    [2, 1], "11", b"\x01\x01", {1: 1, 0: 1}, {0: 1, 1: 2}, {1, 0}, 1, None, nested(19),
    *[(item, 1) for item in NOT_INTEGERS], *[(1, item) for item in NOT_INTEGERS],
]


def zigzag(runs, count):
    """Return a record of so many runs with the same count."""
    return [((1, 0, -1)[at - at // 3 * 3], count) for at in range(runs)]


def wrong_records():
    """Return values of every kind that are no records."""
    values = [*NOT_LISTS, nested(20), zigzag(401, 1), [(1, 1)] * 401]
    for change in (1, 0, -1):
        values.append([(change, 1), (change, 1)])
        values.append([[change, 2], (change, 1)])
        values.append([(0, 1), (1, 1), (-1, 1), (change, 1), (change, 2)])
    for run in WRONG_RUNS:
        for at in (0, 2, 4):
            runs = [(1, 1), (0, 1), (1, 1), (0, 1), (1, 1)]
            runs[at] = run
            values.append(runs)
    return values


def names_for(many):
    """Return so many different names, the first ones of one letter, the other ones of eight."""
    letters = "abcdefghijklmnopqrstuvwxyz"
    return [letters[at] if at < 26 else "reader" + letters[at // 26] + letters[at % 26] for at in range(many)]


def wrong_names():
    """Return values of every kind that are no lists of different names."""
    values = [*NOT_LISTS, nested(20), [], (), "ann", ["ann", "ann"], ("ann", "bob", "ann"), names_for(201)]
    values += [{"ann": 1}, {"ann"}, iter(["ann"]), names_for(200) + ["a"], ["a"] * 201, ["a"] * 100000]
    for name in NOT_NAMES:
        values += [[name], ["ann", name], (name, "ann", "bob"), ["ann", name, "ann"]]
    return values


def lists_of(values, length):
    """Return all lists of so many of these values."""
    return [list(items) for items in product(values, repeat=length)]


def raised(function, *arguments):
    """Return the error that a call raises; fail if it raises none."""
    try:
        result = function(*arguments)
    except Exception as error:
        return error
    raise AssertionError(f"no error, but {result!r:.200}")


def steps(readers, history):
    """Return the ranks and the sizes after the reads, as [4] and [5] say step by step."""
    positions = {reader: 0 for reader in range(readers)}
    ranks, sizes = [], [0]
    for reader in history:
        ranks.append(sum(1 for other in positions if positions[other] > positions[reader]))
        positions[reader] += 1
        sizes.append(max(positions.values()) - min(positions.values()))
    return [positions[reader] for reader in range(readers)], ranks, sizes


def runs_of(changes):
    """Return the runs of equal changes, counted one after the other."""
    runs = []
    at = 0
    while at < len(changes):
        end = at
        while end < len(changes) and changes[end] == changes[at]:
            end += 1
        runs.append((changes[at], end - at))
        at = end
    return runs


def as_tuples(value):
    """Return the value with every list in it made a tuple."""
    if isinstance(value, (list, tuple)):
        return tuple(as_tuples(item) for item in value)
    return value


def as_lists(value):
    """Return the value with every tuple in it made a list."""
    if isinstance(value, (list, tuple)):
        return [as_lists(item) for item in value]
    return value


class Checks:
    """Assertions for test cases."""

    def assert_raises_exactly(self, kind, function, *arguments):
        """Assert that a call raises an error of this very class, and return the error."""
        error = raised(function, *arguments)
        self.assertIs(type(error), kind, repr(error)[:200])
        return error

    def assert_same(self, found, wanted):
        """Assert that two values are equal, and of the same kinds throughout."""
        self.assertEqual(found, wanted)
        self.assertEqual(kinds(found), kinds(wanted))


def kinds(value):
    """Return the kinds of a value and of all values in it."""
    if isinstance(value, (list, tuple)):
        return (type(value), [kinds(item) for item in value])
    return type(value)
