"""The errors of reading and their order (point 7)."""

import unittest

from everydoor.errors import Barred
from everydoor.library import Library
from everydoor.order import linearize
from helper import TEXT, DoorTest

DOORS = "door put one open\ndoor fill many open\n"
HEAD = DOORS + "mark text\nclass Box\n"


class ReadingTest(DoorTest):
    def assert_body(self, line, kind, **attributes):
        """The body line is line 5, below two doors, a mark and a class."""
        self.assert_reading(HEAD + line, kind, line=5, **attributes)

    def test_example(self):
        text = "door set one open\nclass Base\n  set: self.put"
        self.assert_reading(text, "Unknown", line=3, name="put")

    def test_taken_doors_and_marks(self):
        self.assert_reading(DOORS + "door put many make\nclass Box", "Taken", line=3, name="put")
        self.assert_reading(DOORS + "mark fill\nclass Box", "Taken", line=3, name="fill")
        self.assert_reading(DOORS + "mark x\nmark x\nclass Box", "Taken", line=4, name="x")

    def test_taken_classes(self):
        text = DOORS + "class Box\nclass Bag\nclass Box"
        self.assert_reading(text, "Taken", line=5, name="Box")
        self.assert_reading(text + "(Bag, No)", "Taken", line=5, name="Box")

    def test_unknown_bases(self):
        self.assert_reading(DOORS + "class Box(Bag)\nclass Bag", "Unknown", line=3, name="Bag")
        self.assert_reading(DOORS + "class Box(Box)", "Unknown", line=3, name="Box")
        text = DOORS + "class Bag\nclass Box(Bag, No, Other)"
        self.assert_reading(text, "Unknown", line=4, name="No")

    def test_taken_bases(self):
        text = DOORS + "class A\nclass B\n"
        self.assert_reading(text + "class Box(A, A)", "Taken", line=5, name="A")
        self.assert_reading(text + "class Box(A, B, A)", "Taken", line=5, name="A")
        self.assert_reading(text + "class Box(A, B, B)", "Taken", line=5, name="B")
        self.assert_reading(text + "class Box(A, A, No)", "Taken", line=5, name="A")

    def test_an_unknown_base_between_two_equal_ones(self):
        text = DOORS + "class A\nclass Box(A, No, A)"
        self.assert_reading(text, "Unknown", line=4, name="No")
        self.assert_reading(DOORS + "class Box(No, No)", "Unknown", line=3, name="No")

    def test_unknown_door_of_a_body(self):
        self.assert_body("  other: raw", "Unknown", name="other")
        self.assert_body("  text: raw", "Unknown", name="text")
        self.assert_body("  other: self.no", "Unknown", name="other")

    def test_taken_door_of_a_body(self):
        text = HEAD + "  put: raw\n"
        self.assert_reading(text + "  put: drop", "Taken", line=6, name="put")
        self.assert_reading(text + "  put: all raw", "Taken", line=6, name="put")
        self.assert_reading(text + "  put: self.no", "Taken", line=6, name="put")
        self.assert_reads(text + "class Bag(Box)\n  put: drop")

    def test_misplaced_door_of_a_body(self):
        self.assert_body("  put: all raw", "Misplaced", name="put")
        self.assert_body("  put: each self.no", "Misplaced", name="put")
        self.assert_body("  put: if own then all raw else all raw", "Misplaced", name="put")
        self.assert_body("  fill: raw", "Misplaced", name="fill")
        self.assert_body("  fill: if no then raw | raw", "Misplaced", name="fill")

    def test_unknown_marks_and_doors_in_bodies(self):
        self.assert_body("  put: if no then raw | raw", "Unknown", name="no")
        self.assert_body("  put: if not no then raw | raw", "Unknown", name="no")
        self.assert_body("  put: if put then raw | raw", "Unknown", name="put")
        self.assert_body("  put: self.text", "Unknown", name="text")
        self.assert_body("  put: super.no", "Unknown", name="no")
        self.assert_body("  fill: all self.text", "Unknown", name="text")
        self.assert_body("  fill: each if held then raw | self.no", "Unknown", name="no")

    def test_misplaced_doors_of_hops(self):
        self.assert_body("  fill: all self.put", "Misplaced", name="put")
        self.assert_body("  fill: all raw, super.put", "Misplaced", name="put")
        self.assert_body("  fill: each raw ; all super.put", "Misplaced", name="put")
        line = "  fill: if own then all raw else all self.put"
        self.assert_body(line, "Misplaced", name="put")
        self.assert_reads(HEAD + "  fill: each self.put, self.fill ; all self.fill")
        self.assert_reads(HEAD + "  put: self.put, super.fill")

    def test_names_of_a_body_from_left_to_right(self):
        self.assert_body("  put: if a then self.b | self.c", "Unknown", name="a")
        self.assert_body("  put: if text then self.b | if a then raw | raw", "Unknown", name="b")
        self.assert_body("  put: self.put, self.c, self.d", "Unknown", name="c")
        self.assert_body("  fill: all self.fill, self.put, self.no", "Misplaced", name="put")
        self.assert_body("  fill: all self.no, self.put", "Unknown", name="no")
        self.assert_body("  fill: each self.no ; all self.put", "Unknown", name="no")
        line = "  fill: if own then all self.put else each self.no"
        self.assert_body(line, "Misplaced", name="put")
        line = "  fill: if own then each self.no else all self.put"
        self.assert_body(line, "Unknown", name="no")

    def test_no_form_ahead_of_names(self):
        self.assert_body("  no: self.no, raw ", "BadLine")
        self.assert_body("  put: self.no, self.No", "BadLine")
        self.assert_body("  put: if no then raw", "BadLine")
        text = DOORS + "class Box\n"
        self.assert_reading(text + "class Box(No, no)", "BadLine", line=4)
        self.assert_reading(text + "mark put", "BadLine", line=4)
        self.assert_reading(text + "door put one open", "BadLine", line=4)
        self.assert_reading("door put one open\ndoor put one make", "BadLine", line=2)

    def test_names_ahead_of_the_order(self):
        text = DOORS + "class A\nclass B(A)\n"
        self.assert_reading(text + "class C(A, B, No)", "Unknown", line=5, name="No")
        self.assert_reading(text + "class C(A, B, A)", "Taken", line=5, name="A")
        self.assert_reading(text + "class B(A, B)", "Taken", line=5, name="B")

    def test_no_order(self):
        text = DOORS + "class A\nclass B(A)\nclass C(A, B)"
        error = self.raised(Library.read, text)
        self.assertEqual(error.__class__.__name__, "NoOrder")
        self.assertEqual((error.line, error.name, error.heads), (5, "C", ["A", "B"]))
        self.assertIsInstance(error.__cause__, Barred)
        self.assertEqual(error.__cause__.heads, ["A", "B"])

    def test_no_order_of_a_class_that_is_not_the_last(self):
        text = (
            "door put one open\nclass X\nclass Y\nclass A(X, Y)\n  put: drop\nclass B(Y, X)\n"
            "class C(B, A)\n  put: raw\nclass D"
        )
        error = self.raised(Library.read, text)
        self.assertEqual((error.line, error.name, error.heads), (7, "C", ["Y", "X"]))
        bases = {"X": [], "Y": [], "A": ["X", "Y"], "B": ["Y", "X"], "C": ["B", "A"]}
        barred = self.raised(linearize, bases, "C")
        self.assertEqual((error.heads, error.__cause__.heads), (barred.heads, barred.heads))
        error.heads.clear()
        self.assertEqual(error.__cause__.heads, barred.heads)

    def test_the_first_wrong_line_raises(self):
        wrong = [
            ("Taken", {"name": "put"}, "mark put"), ("Unknown", {"name": "No"}, "class A(No)"),
            ("BadLine", {}, "class a"), ("BadLine", {}, ""),
        ]
        for kind, attributes, line in wrong:
            for _, _, later in wrong:
                text = f"{DOORS}{line}\n{later}\nclass Box\n\n"
                self.assert_reading(text, kind, line=3, **attributes)
        text = DOORS + "class A\nclass B(A)\nclass C(A, B)\n\nclass C(No)"
        self.assert_reading(text, "NoOrder", line=5, name="C", heads=["A", "B"])
        self.assert_reading(HEAD + "  put: self.no\n  put: ", "Unknown", line=5, name="no")
        self.assert_reading(DOORS + "door put one open", "Taken", line=3, name="put")

    def test_nothing_stays_of_a_text_with_an_error(self):
        self.raised(Library.read, TEXT + "\nclass Bag\n  set: self.no")
        self.assertEqual(Library.read(TEXT).classes, ["Base", "Box"])


if __name__ == "__main__":
    unittest.main()
