"""The classes of everydoor/errors.py."""

import unittest

from everydoor import errors
from everydoor.cases import Case

CASE = Case("set", [(0, False)])
ROW = ("go", 0, "set", 0, 0, False, (0,))
ATTRIBUTES = [
    ("BadLine", [("line", 3)]),
    ("Taken", [("line", 3), ("name", "set")]),
    ("Unknown", [("line", 3), ("name", "set")]),
    ("Misplaced", [("line", 3), ("name", "set")]),
    ("NoOrder", [("line", 3), ("name", "Box"), ("heads", ["A", "B"])]),
    ("Barred", [("heads", ["A", "B"])]),
    ("NoDoor", [("door", "set")]),
    ("NoClass", [("name", "Box")]),
    ("NoPlace", [("place", -1)]),
    ("NotOpen", [("door", "set")]),
    ("BadBatch", [("door", "set")]),
    ("BadMarks", [("number", 4)]),
    ("Impossible", [("case", CASE)]),
    ("TooLong", [("case", CASE), ("trail", [ROW])]),
    ("Endless", [("case", CASE), ("ring", [(0, "set"), (1, "put")]), ("trail", [ROW])]),
    ("NoOpening", []),
    ("Missing", [("key", 7)]),
    ("Refused", [("door", "set"), ("key", 7), ("value", 10 ** 39)]),
    ("BadGoal", [("goal", "seen")]),
    ("Unlike", []),
]


class ErrorsTest(unittest.TestCase):
    def test_base(self):
        self.assertEqual(errors.DoorError.__bases__, (ValueError,))

    def test_each_stands_directly_under_the_base(self):
        for name, _ in ATTRIBUTES:
            with self.subTest(name=name):
                self.assertEqual(getattr(errors, name).__bases__, (errors.DoorError,))

    def test_no_other_classes(self):
        found = {name for name, value in vars(errors).items() if isinstance(value, type)}
        self.assertEqual(found, {name for name, _ in ATTRIBUTES} | {"DoorError"})

    def test_by_position(self):
        for name, pairs in ATTRIBUTES:
            with self.subTest(name=name):
                error = getattr(errors, name)(*[value for _, value in pairs])
                self.assertEqual(list(vars(error).items()), pairs)
                self.assertIsInstance(str(error), str)

    def test_by_name(self):
        for name, pairs in ATTRIBUTES:
            with self.subTest(name=name):
                error = getattr(errors, name)(**dict(reversed(pairs)))
                self.assertEqual(list(vars(error).items()), pairs)

    def test_one_argument_too_many_or_too_few(self):
        for name, pairs in ATTRIBUTES:
            values = [value for _, value in pairs]
            with self.subTest(name=name):
                self.assertRaises(TypeError, getattr(errors, name), *values, 1)
                if values:
                    self.assertRaises(TypeError, getattr(errors, name), *values[:-1])

    def test_lists_are_copied(self):
        heads, ring, trail = ["A", "B"], [[0, "set"]], [ROW]
        raised = [
            errors.Barred(heads), errors.NoOrder(3, "C", heads),
            errors.Endless(CASE, ring, trail), errors.TooLong(CASE, trail),
        ]
        ring[0][0] = 5
        for row in (heads, ring, trail):
            row.clear()
        self.assertEqual([error.heads for error in raised[:2]], [["A", "B"], ["A", "B"]])
        self.assertEqual(raised[2].ring, [(0, "set")])
        self.assertEqual([error.trail for error in raised[2:]], [[ROW], [ROW]])

    def test_tuples_for_lists(self):
        self.assertEqual(errors.Barred(("A", "B")).heads, ["A", "B"])
        self.assertEqual(errors.NoOrder(3, "C", ("A", "B")).heads, ["A", "B"])
        self.assertEqual(errors.Endless(CASE, ((0, "set"),), (ROW,)).ring, [(0, "set")])
        self.assertEqual(errors.Endless(CASE, ((0, "set"),), (ROW,)).trail, [ROW])
        self.assertEqual(errors.TooLong(CASE, (ROW,)).trail, [ROW])


if __name__ == "__main__":
    unittest.main()
