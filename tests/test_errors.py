"""[3]: the error classes, their bases and their fields."""

import unittest

from teesizes import errors
from teesizes.errors import BufferFull, Impossible, InvalidText, TeeError, TooLong

PLAIN = [
    "InvalidReaders", "InvalidHistory", "InvalidRanks", "InvalidState", "InvalidRecord", "InvalidChanges",
    "InvalidNumber", "InvalidRank", "InvalidName", "InvalidNames", "NothingToUndo", "InvalidCommand",
]
WITH_FIELD = {"TooLong": "length", "Impossible": "obstruction", "BufferFull": "most", "InvalidText": "index"}


class ErrorsTest(unittest.TestCase):

    def test_base(self):
        self.assertEqual(TeeError.__bases__, (ValueError,))

    def test_each_class_derives_directly(self):
        for name in [*PLAIN, *WITH_FIELD]:
            with self.subTest(name):
                kind = getattr(errors, name)
                self.assertEqual(kind.__bases__, (TeeError,))
                self.assertEqual((kind.__name__, kind.__module__), (name, "teesizes.errors"))

    def test_there_are_no_other_classes(self):
        names = [name for name, value in vars(errors).items() if isinstance(value, type)]
        self.assertEqual(sorted(names), sorted(["TeeError", *PLAIN, *WITH_FIELD]))

    def test_plain_errors_take_one_string(self):
        for name in ["TeeError", *PLAIN]:
            with self.subTest(name):
                self.assertEqual(str(getattr(errors, name)("what is wrong")), "what is wrong")

    def test_fields(self):
        obstruction = ("few", 5)
        for error, field, value in [
            (TooLong(401), "length", 401),
            (TooLong(10 ** 5000), "length", 10 ** 5000),
            (Impossible(obstruction), "obstruction", ("few", 5)),
            (BufferFull(0), "most", 0),
            (BufferFull(10 ** 30), "most", 10 ** 30),
            (InvalidText(2), "index", 2),
            (InvalidText(None), "index", None),
        ]:
            with self.subTest(field):
                self.assertEqual(getattr(error, field), value)
                self.assertEqual(vars(error), {field: value})

    def test_errors_can_be_caught_by_their_bases(self):
        for base in (TooLong, TeeError, ValueError):
            with self.assertRaises(base) as caught:
                raise TooLong(7)
            self.assertEqual(caught.exception.length, 7)


if __name__ == "__main__":
    unittest.main()
