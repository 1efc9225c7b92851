"""Walks that end, and those that do not: TooLong and Endless (points 19 and 20)."""

import unittest

from everydoor.errors import Endless
from everydoor.library import Library
from everydoor.study import Study
from helper import DoorTest, case_of, study_of, told

# Executing e makes 1 dispatch, d 4, c 9.
PARTS = ("  c: self.d, self.d", "  d: self.e, self.e, self.e", "  e: raw")
INNER = tuple(f"door {name} one inner" for name in "cdef")


def long_lines(last):
    """A library whose walk of `a 0` has 20 dispatches, and then those of the hops `last`."""
    return ("door a one open", *INNER, "class Box", "  a: self.c, self.c, self.f", *PARTS,
            f"  f: {last}")


class EndTest(DoorTest):
    def assert_fails(self, lines, kind, words, ring=None, trail=None):
        """Reading the study raises this error; `trail` is in short, as `told` tells it."""
        with self.subTest(lines=lines):
            error = self.raised(Study, Library.read("\n".join(lines)))
            self.assertEqual((error.__class__.__name__, str(error.case)), (kind, words))
            self.assertIsInstance(error.trail, list)
            if kind == "Endless":
                self.assertEqual(repr(error.ring), repr(ring))
            if trail is not None:
                self.assertEqual(told(error.trail), trail)
            return error

    def count(self, study, words):
        return len([row for row in study.trace(case_of(words)) if row[0] == "go"])

    def test_example(self):
        lines = ("door set one open", "class Base", "  set: raw, self.set")
        error = self.assert_fails(lines, "Endless", "set 0", [(0, "set")], [
            "0 set 0-0 0", "1 set 0 puts 0", "1 set 0-0 0", "2 set 0 puts 0", "2 set 0-0 0"])
        self.assertEqual(error.trail[-1], ("go", 2, "set", 0, 0, False, (0,)))

    def test_thirty_dispatches(self):
        study = study_of(*long_lines("self.c, self.e"))
        self.assertEqual(self.count(study, "a 0"), 30)
        self.assertEqual(self.count(study, "a 0h"), 30)

    def test_thirty_dispatches_of_each_of_eight_items(self):
        study = study_of("door u many open", *INNER, "class Box",
                         "  u: each self.c, self.c, self.f", *PARTS, "  f: self.c, self.e, raw")
        self.assertEqual(self.count(study, "u 0"), 30)
        self.assertEqual(self.count(study, "u 0 0 0 0 0 0 0 0"), 1 + 8 * 29)

    def test_thirty_one_dispatches(self):
        error = self.assert_fails(long_lines("self.c, self.e, self.e"), "TooLong", "a 0")
        self.assertEqual(len([row for row in error.trail if row[0] == "go"]), 30)
        self.assertEqual(told(error.trail)[-2:], ["2 e 0-0 0", "3 e 0 puts 0"])
        self.assertEqual(set(vars(error)), {"case", "trail"})

    def test_the_thirtieth_dispatch_shows_an_endless_walk(self):
        lines = [line.replace("e: raw", "e: drop") for line in long_lines("self.c, self.a")]
        error = self.assert_fails(lines, "Endless", "a 0", [(0, "a"), (0, "f")])
        self.assertEqual(len([row for row in error.trail if row[0] == "go"]), 30)
        self.assertEqual(told(error.trail)[-1], "2 a 0-0 0")

    def test_the_thirty_first_dispatch_shows_nothing(self):
        lines = [line.replace("e: raw", "e: drop") for line in long_lines("self.c, self.e, self.a")]
        error = self.assert_fails(lines, "TooLong", "a 0")
        self.assertEqual(told(error.trail)[-1], "2 e 0-0 0")
        self.assertEqual(len(error.trail), 30)

    def test_one_body(self):
        lines = ("door a one open", "class A", "  a: self.a")
        self.assert_fails(lines, "Endless", "a 0", [(0, "a")], ["0 a 0-0 0", "1 a 0-0 0"])

    def test_several_bodies(self):
        lines = ("door a one open", "door b one inner", "door c many inner", "class Base",
                 "  c: each self.b", "class Box(Base)", "  a: super.b, self.b", "  b: self.c")
        self.assert_fails(lines, "Endless", "a 0", [(0, "b"), (1, "c")], [
            "0 a 0-0 0", "1 b 1-2 0", "2 b 2 puts 0", "1 b 0-0 0", "2 c 0-1 0", "3 b 0-0 0"])

    def test_the_same_door_of_another_class(self):
        study = study_of("door a one open", "class Base", "  a: super.a", "class Box(Base)",
                         "  a: super.a")
        self.assertEqual(self.count(study, "a 0"), 3)
        lines = ("door a one open", "class Base", "  a: self.a", "class Box(Base)", "  a: super.a")
        self.assert_fails(
            lines, "Endless", "a 0", [(0, "a"), (1, "a")],
            ["0 a 0-0 0", "1 a 1-1 0", "2 a 0-0 0"])

    def test_a_body_that_is_done_is_not_at_work(self):
        study = study_of("door a one open", "door b one inner", "class A",
                         "  a: self.b, self.b, self.b")
        self.assertEqual(self.count(study, "a 0"), 4)
        study = study_of("door a one open", "door b one inner", "class A",
                         "  a: self.b, self.b, self.b", "  b: raw")
        self.assertEqual(self.count(study, "a 0"), 4)

    def test_another_value_of_own(self):
        study = study_of("door u many open", "class A", "  u: if own then each self.u else all raw")
        self.assertEqual(told(study.trace(case_of("u own 0"))), [
            "0 u 0-0 own 0", "1 u 0-0 0", "2 u 0 puts 0"])
        lines = ("door u many open", "class A", "  u: if own then all self.u else all raw")
        self.assert_fails(
            lines, "Endless", "u own 0", [(0, "u")], ["0 u 0-0 own 0", "1 u 0-0 own 0"])
        lines = ("door u many open", "class A", "  u: if own then each self.u else all self.u")
        self.assert_fails(lines, "Endless", "u 0", [(0, "u")], ["0 u 0-0 0", "1 u 0-0 0"])

    def test_own_that_is_met_again_behind_another_value(self):
        lines = ("door u many open", "door v many inner", "class A",
                 "  u: if own then each self.v else all drop", "  v: each self.u ; all self.v")
        self.assert_fails(lines, "Endless", "u own 0", [(0, "v")], [
            "0 u 0-0 own 0", "1 v 0-0 0", "2 u 0-0 0", "2 v 0-0 0"])

    def test_another_value_of_held(self):
        study = study_of("door a one open", "class A", "  a: if held then drop | raw, self.a")
        self.assertEqual(told(study.trace(case_of("a 0"))), [
            "0 a 0-0 0", "1 a 0 puts 0", "1 a 0-0 0"])
        lines = ("door a one open", "class A", "  a: if held then self.a | raw, self.a")
        self.assert_fails(lines, "Endless", "a 0", [(0, "a")], [
            "0 a 0-0 0", "1 a 0 puts 0", "1 a 0-0 0", "2 a 0-0 0"])

    def test_the_key_was_held_when_the_body_was_entered(self):
        # Both bodies are at work when the third dispatch meets the second, not the first.
        lines = ("door a one open", "door b one inner", "class A", "  a: self.b, raw, self.b",
                 "  b: if held then self.a | drop")
        self.assert_fails(lines, "Endless", "a 0", [(0, "b"), (0, "a")], [
            "0 a 0-0 0", "1 b 0-0 0", "1 a 0 puts 0", "1 b 0-0 0", "2 a 0-0 0", "3 b 0-0 0"])

    def test_the_ground_is_met_again(self):
        study = study_of("door a one open", "door u many open", "class A",
                         "  a: super.a, super.a, super.a", "  u: all super.u ; each super.a, super.a")
        self.assertEqual(self.count(study, "a 0"), 4)
        self.assertEqual(self.count(study, "u 0"), 4)

    def test_the_first_case_in_their_order(self):
        body = "  a: if x then self.a | raw"
        lines = ("door a one open", "door u many open", "mark x", "class A")
        self.assert_fails([*lines, body], "Endless", "a 1", [(0, "a")])
        self.assert_fails(
            [*lines, "  u: if own then all self.u else all drop"], "Endless", "u own 0", [(0, "u")])
        self.assert_fails([*lines, "  u: all self.u"], "Endless", "u 0", [(0, "u")])
        self.assert_fails(
            ["door u many open", "door a one open", *lines[2:], body, "  u: each self.a"],
            "Endless", "u 1", [(0, "a")])

    def test_held_cases_come_last(self):
        lines = ("door a one open", "door b one open", "class A", "  a: if held then self.a | raw")
        self.assert_fails(lines, "Endless", "a 0h", [(0, "a")], ["0 a 0-0 0", "1 a 0-0 0"])
        self.assert_fails([*lines, "  b: self.b"], "Endless", "b 0", [(0, "b")])

    def test_held_cases_that_are_not_possible(self):
        body = "  a: if held then self.a | drop"
        study = study_of("door a one open", "class A", body)
        self.assertIsNone(study.opening)
        study = study_of("door m many make", "class A", "  m: all drop ; each if held then raw | drop")
        self.assertIsNone(study.opening)
        lines = ("door a one open", "door b one open", "class A", body)
        self.assert_fails(lines, "Endless", "a 0h", [(0, "a")])
        study = study_of("door m many make", "class A", "  m: each if held then self.m | raw")
        self.assertEqual(str(study.opening), "m 0")

    def test_inner_doors_are_not_called(self):
        study = study_of("door a one open", "door b one inner", "class A", "  b: self.b")
        self.assertEqual(self.count(study, "a 0"), 1)

    def test_classes_that_are_not_in_the_order(self):
        study = study_of("door a one open", "class A", "  a: self.a", "class B", "  a: raw")
        self.assertEqual(self.count(study, "a 0"), 1)
        study = study_of("door a one open", "class A", "  a: self.a", "class B")
        self.assertEqual(told(study.trace(case_of("a 0"))), ["0 a 0-1 0", "1 a 1 puts 0"])

    def test_one_error_per_study(self):
        with self.assertRaises(Endless) as caught:
            study_of("door a one open", "class A", "  a: self.a")
        self.assertEqual(set(vars(caught.exception)), {"case", "ring", "trail"})
        self.assertEqual(caught.exception.case, case_of("a 0"))


if __name__ == "__main__":
    unittest.main()
