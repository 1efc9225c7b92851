"""Names of doors, marks and classes (point 4)."""

import string
import unittest

from everydoor.library import Library
from helper import KEPT, DoorTest


def door_text(name):
    return f"door {name} one open\nclass Box"


def class_text(name):
    return f"door set one open\nclass {name}"


class NamesTest(DoorTest):
    def test_names(self):
        for word in ["a", "z", "set", "abcdefgh", "zzzzzzzz", "doors", "ownx", "xheld", "clas"]:
            with self.subTest(word=word):
                self.assertIs(Library.is_name(word), True)
                self.assertEqual(Library.read(door_text(word)).doors, [(word, "one", "open")])

    def test_no_names(self):
        words = ["", "abcdefghi", "a" * 60, "A", "Set", "sEt", "seT", "s1", "1", "s_t", "s-t",
                 "se t", " set", "set ", "\tset", "se\n", "se~", "s.t", "s(", "{", "`", "@", "["]
        for word in words + KEPT:
            with self.subTest(word=word):
                self.assertIs(Library.is_name(word), False)
                self.assert_reading(door_text(word), "BadLine", line=1)

    def test_each_character(self):
        for code in [9, 10, *range(32, 127)]:
            wanted = chr(code) in string.ascii_lowercase
            self.assertIs(Library.is_name(chr(code)), wanted)
            self.assertIs(Library.is_name("a" + chr(code) + "b"), wanted)

    def test_by_name_and_of_an_object(self):
        self.assertIs(Library.is_name(word="set"), True)
        self.assertIs(Library.read(door_text("put")).is_name("door"), False)

    def test_kept_words_nowhere(self):
        for word in KEPT:
            self.assert_reading(f"door set one open\nmark {word}\nclass Box", "BadLine", line=2)
            self.assert_reading(f"door set one open\nclass Box\n  {word}: raw", "BadLine", line=3)
            body = f"  set: self.{word}"
            self.assert_reading(f"door set one open\nclass Box\n{body}", "BadLine", line=3)
            if word != "held":
                body = f"  set: if {word} then raw | raw"
                self.assert_reading(f"door set one open\nclass Box\n{body}", "BadLine", line=3)
                body = f"  set: if not {word} then raw | raw"
                self.assert_reading(f"door set one open\nclass Box\n{body}", "BadLine", line=3)

    def test_names_of_marks(self):
        for word in ["m", "abcdefgh"]:
            text = f"door set one open\nmark {word}\nclass Box"
            self.assertEqual(Library.read(text).marks, [word])
        for word in ["", "abcdefghi", "M", "m1"]:
            self.assert_reading(f"door set one open\nmark {word}\nclass Box", "BadLine", line=2)

    def test_names_of_classes(self):
        for word in ["A", "Z", "Box", "Abcdefgh", "Zzzzzzzz", "Door", "Ground"]:
            with self.subTest(word=word):
                self.assertEqual(Library.read(class_text(word)).order, [word])

    def test_no_names_of_classes(self):
        words = ["", "a", "box", "bOX", "Abcdefghi", "AB", "BoX", "B1", "B_", "B x", "1", "@b", "[b",
                 "class", " Box", "Box ", "\tBox"]
        for word in words:
            self.assert_reading(class_text(word), "BadLine", line=2)
            self.assert_reading(class_text("Zed") + f"\nclass Y({word})", "BadLine", line=3)


if __name__ == "__main__":
    unittest.main()
