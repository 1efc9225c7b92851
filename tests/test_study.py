"""Possible cases, the opening, the order of cases, and the errors of `trace` (15, 17, 18, 21)."""

import itertools
import unittest

from everydoor.cases import Case
from everydoor.library import Library
from everydoor.study import Study
from helper import FORTY, TEXT, DoorTest, case_of, study_of, write_studies


def all_cases(study, size):
    """Return all possible cases in the order of cases, sorted as point 18 says."""
    library = study.library
    states = itertools.product(range(2 ** len(library.marks)), (False, True))
    rows = list(itertools.product(list(states), repeat=size))
    found = []
    for at, (door, takes, entry) in enumerate(library.doors):
        for own, row in itertools.product((False, True), rows):
            held = sum(state[1] for state in row)
            if entry == "inner" or takes == "one" and (own or size > 1):
                continue
            if held and (entry == "make" or study.opening is None):
                continue
            found.append((held, at, own, row, door))
    return [Case(door, row, own) for held, at, own, row, door in sorted(found)]


class CasesTest(DoorTest):
    def test_one_item(self):
        study = Study(Library.read(TEXT))
        self.assertEqual([str(case) for case in study.cases(1)], [
            "set 0", "set 1", "update 0", "update 1", "update own 0", "update own 1",
            "set 0h", "set 1h", "update 0h", "update 1h", "update own 0h", "update own 1h"])

    def test_two_items(self):
        study = study_of("door set one open", "door fill many open",
                         "door new many make", "mark x", "class Box")
        self.assertEqual([str(case) for case in study.cases(2)], [
            "fill 0 0", "fill 0 1", "fill 1 0", "fill 1 1",
            "fill own 0 0", "fill own 0 1", "fill own 1 0", "fill own 1 1",
            "new 0 0", "new 0 1", "new 1 0", "new 1 1",
            "new own 0 0", "new own 0 1", "new own 1 0", "new own 1 1",
            "fill 0 0h", "fill 0 1h", "fill 0h 0", "fill 0h 1",
            "fill 1 0h", "fill 1 1h", "fill 1h 0", "fill 1h 1",
            "fill own 0 0h", "fill own 0 1h", "fill own 0h 0", "fill own 0h 1",
            "fill own 1 0h", "fill own 1 1h", "fill own 1h 0", "fill own 1h 1",
            "fill 0h 0h", "fill 0h 1h", "fill 1h 0h", "fill 1h 1h",
            "fill own 0h 0h", "fill own 0h 1h", "fill own 1h 0h", "fill own 1h 1h"])

    def test_inner_doors_have_no_cases(self):
        study = study_of("door a one inner", "door b many inner", "door c one open", "class Box")
        self.assertEqual([str(case) for case in study.cases(1)], ["c 0", "c 0h"])
        self.assertEqual(list(study.cases(2)), [])

    def test_no_opening_nothing_held(self):
        study = study_of("door a one open", "door u many open", "class Box",
                         "  a: drop", "  u: each if held then raw | drop")
        self.assertIsNone(study.opening)
        self.assertEqual([str(case) for case in study.cases(1)], ["a 0", "u 0", "u own 0"])
        self.assertEqual([str(case) for case in study.cases(size=2)], ["u 0 0", "u own 0 0"])

    def test_makers_hold_nothing(self):
        study = study_of("door m many make", "class Box")
        self.assertEqual([str(case) for case in study.cases(1)], ["m 0", "m own 0"])

    def test_sorted(self):
        for study in write_studies(21, 25):
            for size in (1, 2):
                self.assertEqual(list(study.cases(size)), all_cases(study, size))

    def test_each_case_is_possible(self):
        for study in write_studies(22, 10):
            for size in (1, 2):
                for case in study.cases(size):
                    self.assertEqual(study.trace(case)[0][2], case.door)

    def test_kinds(self):
        case, = [case for case in study_of("door a one open", "class A", "  a: drop").cases(1)]
        self.assertIsInstance(case, Case)
        self.assertEqual(repr((case.states, case.own)), "(((0, False),), False)")

    def test_generator(self):
        study = Study(Library.read(TEXT))
        self.assertEqual(next(study.cases(1)), case_of("set 0"))
        first, second = study.cases(2), study.cases(2)
        self.assertEqual([next(first), next(second)], [case_of("update 0 0")] * 2)


class OpeningTest(DoorTest):
    def assert_opening(self, wanted, *lines):
        with self.subTest(lines=lines):
            opening = study_of(*lines).opening
            self.assertEqual(None if opening is None else str(opening), wanted)

    def test_openings(self):
        self.assert_opening("set 0", TEXT)
        self.assert_opening("a 0", "door a one open", "class A")
        self.assert_opening("m 0", "door b one inner", "door m many make", "class A")
        self.assert_opening(
            "m own 0", "door m many make", "class A", "  m: if own then all raw else all drop")
        self.assert_opening(
            "a 1", "door a one open", "mark x", "class A", "  a: if x then raw | drop")
        self.assert_opening(
            "u own 2", "door a one open", "door u many open", "mark x", "mark y", "class A",
            "  a: drop", "  u: if own then each if y then raw | drop else all drop")

    def test_the_earlier_door_then_own_then_marks(self):
        bodies = ("  a: if x then raw | drop", "  u: if own then all raw else each self.a")
        doors = ["door a one open", "door u many open"]
        self.assert_opening("a 1", *doors, "mark x", "class A", *bodies)
        self.assert_opening("u 1", *doors[::-1], "mark x", "class A", *bodies)

    def test_no_opening(self):
        self.assert_opening(None, "door a one open", "class A", "  a: drop")
        self.assert_opening(None, "door a one inner", "class A")
        self.assert_opening(
            None, "door a one open", "class A", "  a: if held then raw | drop")

    def test_two_items_open_nothing(self):
        # A put of a second item would need a first one, and items do not touch one another.
        self.assert_opening(
            None, "door u many open", "class A", "  u: all drop ; each if held then raw | drop")


class StudyTest(DoorTest):
    def test_library(self):
        library = Library.read(TEXT)
        self.assertIs(Study(library=library).library, library)

    def test_defined_in_the_class_itself(self):
        self.assertIsInstance(vars(Study)["opening"], property)
        for name in ("cases", "trace", "__init__"):
            self.assertIn(name, vars(Study))

    def assert_wrong(self, study, tried, kind, **attributes):
        with self.subTest(case=str(tried)):
            self.assert_raises_door((kind, attributes), study.trace, tried)

    def test_errors_of_trace(self):
        study = study_of(
            "door a one open", "door b one inner", "door c many inner", "door u many open",
            "door m many make", "mark x", "class Box")
        for door in ("z", "", "x", "Box", "raw"):
            self.assert_wrong(study, Case(door, [(9, True)], True), "NoDoor", door=door)
        for words in ("b 0", "b own 9h 0", "c 0", "c 9h"):
            self.assert_wrong(study, case_of(words), "NotOpen", door=words[0])
        for words in ("a 0 0", "a own 0", "a own 9 9h", "a 9 0"):
            self.assert_wrong(study, case_of(words), "BadBatch", door="a")
        for words, number in (("a 2", 2), ("u 0 2 3", 2), ("u 1 -1", -1), ("m 3h 2", 3),
                              ("u own 0h 1 2h", 2), (f"a {FORTY}", FORTY), (f"a -{FORTY}", -FORTY)):
            self.assert_wrong(study, case_of(words), "BadMarks", number=number)
        for words in ("m 0h", "m own 0 1h", "m 1 0 0h"):
            case = case_of(words)
            self.assert_wrong(study, case, "Impossible", case=case)
            self.assertIs(self.raised(study.trace, case).case, case)

    def test_impossible_without_an_opening(self):
        study = study_of("door a one open", "door u many open", "class A", "  a: drop",
                         "  u: all drop")
        for words in ("a 0h", "u 0 0h", "u own 0h"):
            self.assert_wrong(study, case_of(words), "Impossible", case=case_of(words))
            self.assert_wrong(study, case_of(words.replace("0h", "1h")), "BadMarks", number=1)
        self.assertEqual(len(study.trace(case_of("u 0 0"))), 1)

    def test_marks(self):
        for marks, lines in ((1, ()), (2, ("mark x",)), (4, ("mark x", "mark y"))):
            study = study_of("door a one open", *lines, "class A")
            for number in range(marks):
                self.assertEqual(len(study.trace(Case("a", [(number, True)]))), 2)
            for number in (marks, -1):
                self.assert_wrong(study, Case("a", [(number, True)]), "BadMarks", number=number)

    def test_the_case_stays_and_the_trace_is_new(self):
        study = Study(Library.read(TEXT))
        case = Case("update", [(1, True), (0, False)])
        before, trace = str(case), study.trace(case=case)
        wanted = list(trace)
        trace.reverse()
        trace[0] = trace[1] = 7
        trace.clear()
        self.assertEqual(study.trace(case), wanted)
        self.assertEqual(str(case), before)

    def test_errors_change_nothing(self):
        study = Study(Library.read(TEXT))
        before = [[str(case) for case in study.cases(1)], study.trace(case_of("update 0 1"))]
        for words in ("z 0", "check 0", "set 0 0", "set 5"):
            self.raised(study.trace, case_of(words))
        self.assertEqual(
            [[str(case) for case in study.cases(1)], study.trace(case_of("update 0 1"))], before)
        self.assertEqual(study.opening, case_of("set 0"))

    def test_traces_do_not_touch_one_another(self):
        study = study_of("door a one open", "class A", "  a: if held then drop | raw")
        for _ in range(3):
            self.assertEqual(len(study.trace(case_of("a 0"))), 2)
            self.assertEqual(len(study.trace(case_of("a 0h"))), 1)


if __name__ == "__main__":
    unittest.main()
