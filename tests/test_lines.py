"""The lines of a library text, their order and their bounds (points 5 and 7)."""

import unittest

from everydoor.library import Library
from helper import TEXT, DoorTest

KINDS = ["one open", "one inner", "many open", "many inner", "many make"]
LETTERS = "abcdefgh"


def doors(count):
    return [f"door {letter} one open" for letter in LETTERS[:count]]


def classes(count):
    return [f"class {letter.upper()}" for letter in LETTERS[:count]]


def joined(*parts):
    return "\n".join(line for part in parts for line in part)


class LinesTest(DoorTest):
    def assert_bad(self, text, line):
        self.assert_reading(text, "BadLine", line=line)

    def test_kinds_of_doors(self):
        for kind in KINDS:
            library = Library.read(f"door put {kind}\nclass Box")
            self.assertEqual(library.doors, [("put", *kind.split())])

    def test_no_kinds_of_doors(self):
        kinds = ["one make", "one", "open", "", "many", "all open", "one many", "open one",
                 "one open open", "One open", "one Open", "many makes", "one,open"]
        for kind in kinds:
            self.assert_bad(f"door put {kind}\nclass Box", 1)

    def test_bounds_of_doors(self):
        self.assertEqual(Library.MOST_DOORS, 6)
        for count in (1, 6):
            self.assertEqual(len(Library.read(joined(doors(count), ["class Box"])).doors), count)
        self.assert_bad(joined(doors(7), ["class Box"]), 7)
        self.assert_bad(joined(doors(6), doors(1), ["class Box"]), 7)
        self.assert_bad("class Box", 1)
        self.assert_bad("mark text\nclass Box", 1)

    def test_bounds_of_marks(self):
        for count in (0, 1, 2):
            marks = [f"mark {letter}" for letter in "xyz"[:count]]
            library = Library.read(joined(doors(1), marks, ["class Box"]))
            self.assertEqual(library.marks, list("xyz"[:count]))
        self.assert_bad(joined(doors(1), ["mark x", "mark y", "mark z", "class Box"]), 4)
        self.assert_bad(joined(doors(1), ["mark x", "mark y", "mark x", "class Box"]), 4)

    def test_bounds_of_classes(self):
        for count in (1, 6):
            library = Library.read(joined(doors(1), classes(count)))
            self.assertEqual(library.classes, list("ABCDEF"[:count]))
        self.assert_bad(joined(doors(1), classes(7)), 8)
        self.assert_bad(joined(doors(1), classes(6), classes(1)), 8)

    def test_no_class(self):
        self.assert_bad(joined(doors(1)), 2)
        self.assert_bad(joined(doors(6), ["mark x", "mark y"]), 9)

    def test_bounds_of_bases(self):
        for count in (1, 2, 3):
            bases = list("ABC"[:count])
            text = joined(doors(1), classes(3), [f"class Box({', '.join(bases)})"])
            self.assertEqual(Library.read(text).bases("Box"), bases)
        self.assert_bad(joined(doors(1), classes(4), ["class Box(A, B, C, D)"]), 6)
        self.assert_bad(joined(doors(1), ["class Box(X, X, X, X)"]), 2)

    def test_forms_of_classes(self):
        forms = ["class Box()", "class Box( A)", "class Box(A )", "class Box (A)", "class Box(A",
                 "class BoxA)", "class Box(A))", "class Box((A)", "class Box(A,B)", "class Box(A, )",
                 "class Box(A,  B)", "class Box(, A)", "class Box(A , B)", "class Box(A) ",
                 "class Box(A):", "class Box:", "class", "class ", "class  Box", "classBox",
                 "Class Box", "class Box(A)(B)", "class (A)", "class Box(A, b)", "class Box(A B)",
                 "class Box(AB", "class Box(A:", "class Box[A]", "class Box A"]
        for form in forms:
            self.assert_bad(joined(doors(1), classes(2), [form]), 4)

    def test_forms_of_doors_and_marks(self):
        for form in ["door", "door ", "Door a one open", "door a one open:", "doora one open",
                     "doors a one open", "door a, b one open", "door a b one open"]:
            self.assert_bad(form + "\nclass Box", 1)
        for form in ["mark", "mark ", "Mark x", "marks x", "markx", "mark x y", "mark x, y"]:
            self.assert_bad(joined(doors(1), [form, "class Box"]), 2)

    def test_forms_of_body_lines(self):
        for form in ["  a", "  a:", "  a: ", "  a:raw", "  a:  raw", "  a : raw", "   a: raw",
                     " a: raw", "a: raw", "\ta: raw", "  : raw", "  a: raw ", "  a; raw",
                     "  A: raw", "  a raw", "    a: raw", "  a: a: raw", "  class: raw"]:
            self.assert_bad(joined(doors(1), ["class Box", form]), 3)

    def test_spaces_tabs_and_empty_lines(self):
        lines = TEXT.split("\n")
        for at, line in enumerate(lines):
            wrong = [" " + line, line + " ", "\t" + line, line + "\t", ""]
            gaps = [index for index, letter in enumerate(line) if letter == " "]
            for index in gaps:
                wrong.append(line[:index] + " " + line[index:])
                wrong.append(line[:index] + "\t" + line[index + 1:])
                wrong.append(line[:index] + line[index + 1:])
            for other in wrong:
                text = "\n".join([*lines[:at], other, *lines[at + 1:]])
                self.assert_bad(text, at + 1)
            self.assert_bad("\n".join([*lines[:at], "", *lines[at:]]), at + 1)

    def test_line_feed_at_the_end(self):
        self.assert_bad(TEXT + "\n", 10)
        self.assert_bad(TEXT + "\n\n", 10)
        self.assert_bad("door set one open\nclass Box\n", 3)
        self.assert_bad("\n" + TEXT, 1)

    def test_empty_text(self):
        self.assert_bad("", 1)
        self.assert_bad("\n", 1)
        self.assert_bad(" ", 1)

    def test_wrong_sections(self):
        self.assert_bad("door a one open\nmark x\ndoor b one open\nclass Box", 3)
        self.assert_bad("door a one open\nclass Box\ndoor b one open", 3)
        self.assert_bad("door a one open\nclass Box\n  a: raw\ndoor b one open", 4)
        self.assert_bad("mark x\ndoor a one open\nclass Box", 1)
        self.assert_bad("door a one open\nclass Box\nmark x", 3)
        self.assert_bad("door a one open\nclass Box\n  a: raw\nmark x", 4)
        self.assert_bad("class Box\ndoor a one open", 1)
        self.assert_bad("  a: raw\ndoor a one open\nclass Box", 1)
        self.assert_bad("door a one open\n  a: raw\nclass Box", 2)
        self.assert_bad("door a one open\nmark x\n  a: raw\nclass Box", 3)

    def test_a_class_below_bodies(self):
        self.assert_reads("door a one open\nclass Box\n  a: raw\nclass Bag(Box)\n  a: drop")

    def test_a_long_text(self):
        body = "if own then " + "all raw ; all raw ; all raw else " + "each raw ; " * 5000
        self.assert_bad("door a many open\nclass Box\n  a: " + body, 3)
        self.assert_bad("door a one open\nclass Box\n" + "\n".join(["  b"] * 15000), 3)


if __name__ == "__main__":
    unittest.main()
