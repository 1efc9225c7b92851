"""How bodies are executed, and the rows they leave (points 8, 10, 11, 13, 14 and 16)."""

import unittest

from everydoor.cases import Case
from everydoor.library import Library
from everydoor.study import Study
from helper import TEXT, DoorTest, case_of, study_of, told

DECLARED = (
    "door a one open", "door b one inner", "door u many open", "door v many inner",
    "mark x", "mark y", "class Base", "  b: raw", "  v: if own then all raw else all drop",
    "class Box(Base)",
)


class WalkTest(DoorTest):
    def assert_told(self, body, words, *rows, base=()):
        """A class Box with this body, in front of Base, walks the case so."""
        with self.subTest(body=body, case=words):
            study = study_of(*DECLARED[:-1], *base, DECLARED[-1], "  " + body)
            self.assertEqual(told(study.trace(case_of(words))), list(rows))

    def test_examples(self):
        study = Study(Library.read(TEXT))
        self.assertEqual(study.trace(Case("update", [(1, False)])), [
            ("go", 0, "update", 0, 0, False, (0,)), ("go", 1, "set", 0, 1, False, (0,)),
            ("go", 2, "check", 0, 1, False, (0,)), ("put", 2, "set", 1, 0)])

    def test_kinds_of_rows(self):
        study = Study(Library.read(TEXT))
        wanted = "[('go', 0, 'update', 0, 0, True, (0, 1)), " \
            "('put', 1, 'update', 0, 0), ('put', 1, 'update', 0, 1)]"
        self.assertEqual(repr(study.trace(case_of("update own 0 0"))), wanted)
        self.assertEqual(
            repr(study.trace(case_of("set 0"))),
            "[('go', 0, 'set', 0, 1, False, (0,)), ('put', 1, 'set', 1, 0)]")

    def test_hops_of_one(self):
        self.assert_told("a: drop", "a 0", "0 a 0-0 0")
        self.assert_told("a: raw", "a 0", "0 a 0-0 0", "1 a 0 puts 0")
        self.assert_told("a: raw, raw, raw", "a 0", "0 a 0-0 0", *["1 a 0 puts 0"] * 3)
        self.assert_told("a: self.b", "a 0", "0 a 0-0 0", "1 b 0-1 0", "2 b 1 puts 0")
        self.assert_told("a: super.a", "a 0", "0 a 0-0 0", "1 a 1-2 0", "2 a 2 puts 0")
        self.assert_told(
            "a: super.b, raw, self.b", "a 0",
            "0 a 0-0 0", "1 b 1-1 0", "2 b 1 puts 0", "1 a 0 puts 0", "1 b 0-1 0", "2 b 1 puts 0")

    def test_rules(self):
        body = "a: if x then raw | if y then self.b | drop"
        self.assert_told(body, "a 0", "0 a 0-0 0")
        self.assert_told(body, "a 1", "0 a 0-0 0", "1 a 0 puts 0")
        self.assert_told(body, "a 2", "0 a 0-0 0", "1 b 0-1 0", "2 b 1 puts 0")
        self.assert_told(body, "a 3", "0 a 0-0 0", "1 a 0 puts 0")
        body = "a: if not x then raw | if held then self.b | super.a"
        self.assert_told(body, "a 0", "0 a 0-0 0", "1 a 0 puts 0")
        self.assert_told(body, "a 2h", "0 a 0-0 0", "1 a 0 puts 0")
        self.assert_told(body, "a 1", "0 a 0-0 0", "1 a 1-2 0", "2 a 2 puts 0")
        self.assert_told(body, "a 3h", "0 a 0-0 0", "1 b 0-1 0", "2 b 1 puts 0")
        body = "a: if not held then drop | if not y then raw, raw | self.b"
        self.assert_told(body, "a 1", "0 a 0-0 0", base=("  a: raw",))
        body = "u: each if not held then raw | if not y then raw, raw | self.b"
        self.assert_told(body, "u 3", "0 u 0-0 0", "1 u 0 puts 0")
        self.assert_told(body, "u 1h", "0 u 0-0 0", "1 u 0 puts 0", "1 u 0 puts 0")
        self.assert_told(body, "u 3h", "0 u 0-0 0", "1 b 0-1 0", "2 b 1 puts 0")

    def test_tests_are_checked_once(self):
        self.assert_told(
            "a: if not held then raw, raw | drop", "a 0",
            "0 a 0-0 0", "1 a 0 puts 0", "1 a 0 puts 0")
        self.assert_told("a: if not held then raw, raw | drop", "a 0h", "0 a 0-0 0")

    def test_held_behind_a_put(self):
        base = ("  a: if held then raw, raw | super.b",)
        self.assert_told(
            "a: super.a, raw, super.a", "a 0",
            "0 a 0-0 0", "1 a 1-1 0", "2 b 2-2 0", "3 b 2 puts 0", "1 a 0 puts 0",
            "1 a 1-1 0", "2 a 1 puts 0", "2 a 1 puts 0", base=base)
        self.assert_told(
            "u: all raw ; each if held then drop | raw", "u 0 0h",
            "0 u 0-0 0,1", "1 u 0 puts 0", "1 u 0 puts 1")

    def test_the_turn_of_an_item(self):
        # The second item is held when its turn comes in the second phase, but not in the first.
        self.assert_told(
            "u: each if held then self.b | raw ; each if held then drop | raw", "u 0h 0",
            "0 u 0-0 0,1", "1 b 0-1 0", "2 b 1 puts 0", "1 u 0 puts 1")
        self.assert_told(
            "u: each if x then raw | drop ; each if held then raw | self.b", "u 1 0",
            "0 u 0-0 0,1", "1 u 0 puts 0", "1 u 0 puts 0", "1 b 0-1 1", "2 b 1 puts 1")

    def test_phases(self):
        self.assert_told("u: all drop", "u 0 0", "0 u 0-0 0,1")
        self.assert_told("u: each drop", "u 0 0", "0 u 0-0 0,1")
        self.assert_told(
            "u: all raw, raw", "u 0 0",
            "0 u 0-0 0,1", "1 u 0 puts 0", "1 u 0 puts 1", "1 u 0 puts 0", "1 u 0 puts 1")
        self.assert_told(
            "u: each raw, raw", "u 0 0",
            "0 u 0-0 0,1", "1 u 0 puts 0", "1 u 0 puts 0", "1 u 0 puts 1", "1 u 0 puts 1")
        self.assert_told(
            "u: all super.u", "u 0 0",
            "0 u 0-0 0,1", "1 u 1-2 0,1", "2 u 2 puts 0", "2 u 2 puts 1")
        self.assert_told(
            "u: each super.u", "u 0 0",
            "0 u 0-0 0,1", "1 u 1-2 0", "2 u 2 puts 0", "1 u 1-2 1", "2 u 2 puts 1")
        self.assert_told(
            "u: each self.b ; all drop ; all super.u", "u 0 0",
            "0 u 0-0 0,1", "1 b 0-1 0", "2 b 1 puts 0", "1 b 0-1 1", "2 b 1 puts 1",
            "1 u 1-2 0,1", "2 u 2 puts 0", "2 u 2 puts 1")
        self.assert_told("u: all drop ; each drop ; all raw", "u 3", "0 u 0-0 0", "1 u 0 puts 0")

    def test_own(self):
        body = "u: if own then all raw ; each raw else each self.b"
        self.assert_told(body, "u own 0", "0 u 0-0 own 0", "1 u 0 puts 0", "1 u 0 puts 0")
        self.assert_told(body, "u 0", "0 u 0-0 0", "1 b 0-1 0", "2 b 1 puts 0")
        body = "u: if own then each drop else all drop ; all raw"
        self.assert_told(body, "u own 0 1", "0 u 0-0 own 0,1")
        self.assert_told(body, "u 0", "0 u 0-0 0", "1 u 0 puts 0")
        self.assert_told("u: all raw", "u own 0", "0 u 0-0 own 0", "1 u 0 puts 0")

    def test_own_is_passed_on_by_all_alone(self):
        for way, start in (("self", 0), ("super", 1)):
            self.assert_told(
                f"u: all {way}.v", "u own 0 0", "0 u 0-0 own 0,1",
                f"1 v {start}-1 own 0,1", "2 v 1 puts 0", "2 v 1 puts 1")
            self.assert_told(f"u: all {way}.v", "u 0 0", "0 u 0-0 0,1", f"1 v {start}-1 0,1")
            for own, sign in (("own ", "own "), ("", "")):
                self.assert_told(
                    f"u: each {way}.v", f"u {own}0 0", f"0 u 0-0 {sign}0,1",
                    f"1 v {start}-1 0", f"1 v {start}-1 1")
        self.assert_told(
            "u: if own then all super.u else each self.v", "u own 0",
            "0 u 0-0 own 0", "1 u 1-2 own 0", "2 u 2 puts 0")

    def test_own_goes_through_several_bodies(self):
        study = study_of(
            "door u many open", "door v many inner", "door w many inner", "class Box",
            "  u: all self.v", "  v: all self.w ; each self.w",
            "  w: if own then all raw else all drop")
        self.assertEqual(told(study.trace(case_of("u own 0"))), [
            "0 u 0-0 own 0", "1 v 0-0 own 0", "2 w 0-0 own 0", "3 w 0 puts 0", "2 w 0-0 0"])

    def test_one_dispatches_many(self):
        self.assert_told(
            "a: self.v, super.u", "a 2",
            "0 a 0-0 0", "1 v 0-1 0", "1 u 1-2 0", "2 u 2 puts 0")

    def test_the_ground(self):
        study = study_of("door a one open", "door u many open", "door m many make", "class Box")
        self.assertEqual(told(study.trace(case_of("a 0"))), ["0 a 0-1 0", "1 a 1 puts 0"])
        for door in ("u", "m"):
            for own, sign in (("own ", "own "), ("", "")):
                self.assertEqual(told(study.trace(case_of(f"{door} {own}0 0 0"))), [
                    f"0 {door} 0-1 {sign}0,1,2", f"1 {door} 1 puts 0", f"1 {door} 1 puts 1",
                    f"1 {door} 1 puts 2"])

    def test_super_on_the_ground(self):
        study = study_of("door a one open", "class A", "  a: super.a", "class B(A)", "class C(B)")
        self.assertEqual(
            told(study.trace(case_of("a 0"))), ["0 a 0-2 0", "1 a 3-3 0", "2 a 3 puts 0"])

    def test_classes_that_are_not_in_the_order(self):
        study = study_of(
            "door a one open", "door b one inner", "class Other", "  a: drop", "  b: drop",
            "class Base", "  a: self.b", "class Box(Base)")
        self.assertEqual(
            told(study.trace(case_of("a 0"))),
            ["0 a 0-1 0", "1 b 0-2 0", "2 b 2 puts 0"])

    def test_super_goes_along_the_order_of_the_last_class(self):
        study = study_of(
            "door a one open", "class A", "  a: raw", "class B(A)", "  a: super.a",
            "class C(A)", "  a: raw, super.a", "class D(B, C)")
        self.assertEqual(told(study.trace(case_of("a 0"))), [
            "0 a 0-1 0", "1 a 2-2 0", "2 a 2 puts 0", "2 a 3-3 0", "3 a 3 puts 0"])

    def test_eight_items(self):
        study = Study(Library.read(TEXT))
        trace = study.trace(Case("update", [(number % 2, number > 4) for number in range(8)]))
        self.assertEqual(trace[0][6], tuple(range(8)))
        self.assertEqual([row[4] for row in trace if row[0] == "put"], list(range(8)))
        self.assertEqual(len(trace), 1 + 4 * 2 + 4 * 3)


if __name__ == "__main__":
    unittest.main()
