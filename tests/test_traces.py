"""Restrictions, visits, dispatches around a row, and Judge (points 16, 21, 22 and 29)."""

import random
import unittest

from everydoor.boxes import Box
from everydoor.cases import Case
from everydoor.heirs import Heir
from everydoor.library import Library
from everydoor.study import Study
from everydoor.traces import Judge, around, project, visits
from helper import FORTY, TEXT, DoorTest, case_of, study_of, told, write_studies

FIRST = ("go", 0, "update", 0, 0, False, (0, 1))
TRACE = [
    FIRST, ("go", 1, "set", 0, 1, False, (0,)), ("put", 2, "set", 1, 0),
    ("go", 1, "set", 0, 1, False, (1,)), ("put", 2, "set", 1, 1),
]
DEEP = (
    "door u many open", "door v many inner", "door a one inner", "class Base", "  v: each self.a",
    "class Box(Base)", "  u: all self.v, raw ; each super.a",
)


class ProjectTest(DoorTest):
    def test_example(self):
        self.assertEqual(
            [visits(TRACE, 1, ["set", "update"]), around(TRACE, 4), project(TRACE, [1])],
            [[1, 3], [0, 3], [("go", 0, "update", 0, 0, False, (0,)),
                              ("go", 1, "set", 0, 1, False, (0,)), ("put", 2, "set", 1, 0)]])

    def test_some_items(self):
        trace = study_of(*DEEP).trace(case_of("u own 0 0 0 0"))
        self.assertEqual(told(project(trace, [1, 3])), [
            "0 u 0-0 own 0,1", "1 v 0-1 own 0,1", "2 a 0-2 0", "3 a 2 puts 0", "2 a 0-2 1",
            "3 a 2 puts 1", "1 u 0 puts 0", "1 u 0 puts 1", "1 a 1-2 0", "2 a 2 puts 0",
            "1 a 1-2 1", "2 a 2 puts 1"])
        self.assertEqual(repr(project(trace, [3])[0]), "('go', 0, 'u', 0, 0, True, (0,))")

    def test_all_items_and_none(self):
        self.assertEqual(project(TRACE, [0, 1]), TRACE)
        self.assertEqual(project(TRACE, []), [])
        self.assertEqual(project(TRACE, ()), [])
        self.assertEqual(project([], [0]), [])

    def test_arguments_stay_and_the_result_is_new(self):
        trace, items = list(TRACE), [0, 1]
        found = project(trace=trace, items=items)
        self.assertIsNot(found, trace)
        found.clear()
        self.assertEqual((trace, items), (TRACE, [0, 1]))
        self.assertEqual(project(tuple(TRACE), (1,)), project(TRACE, [1]))

    def test_parts_of_eight_items(self):
        pick = random.Random(5)
        for study in [study_of(*DEEP), Study(Library.read(TEXT)), *write_studies(31, 20)]:
            above = 2 ** len(study.library.marks)
            for door, takes, entry in study.library.doors:
                if takes == "one" or entry == "inner":
                    continue
                may = entry == "open" and study.opening is not None
                states = [(pick.randrange(above), may and pick.random() < 0.5) for _ in range(8)]
                case = Case(door, states, pick.random() < 0.5)
                trace = study.trace(case)
                for size in range(1, 9):
                    for _ in range(4):
                        part = sorted(pick.sample(range(8), size))
                        self.assertEqual(project(trace, part), study.trace(case.only(*part)))

    def test_rows_of_a_box(self):
        study = Study(Library.read(TEXT))
        box = Box(Heir(study, lambda door, key, value: None if value > 5 else value, "set"))
        box.put("update", (10, 0, 1), (11, 1, 2), (12, 0, 3))
        self.assertEqual(project(box.rows, [1]), study.trace(case_of("update 1")))
        self.assertEqual(project(box.rows, [0, 2]), study.trace(case_of("update 0 0")))
        self.raised(box.put, "update", (20, 0, 1), (21, 1, 9), (22, 0, 3))
        self.assertEqual(told(project(box.rows, [1])), ["0 update 0-0 0", "1 set 0-1 0"])
        self.assertEqual(told(project(box.rows, [2])), ["0 update 0-0 0"])
        self.assertEqual(project(box.rows, []), [])


class VisitsTest(unittest.TestCase):
    def test_places(self):
        # Base stands at 1, so these dispatches go 0-0, 0-1, 0-2 for each item, 1-2 for each item.
        trace = study_of(*DEEP).trace(case_of("u 0 0"))
        self.assertEqual(told(trace), [
            "0 u 0-0 0,1", "1 v 0-1 0,1", "2 a 0-2 0", "3 a 2 puts 0", "2 a 0-2 1",
            "3 a 2 puts 1", "1 u 0 puts 0", "1 u 0 puts 1", "1 a 1-2 0", "2 a 2 puts 0",
            "1 a 1-2 1", "2 a 2 puts 1"])
        self.assertEqual(visits(trace, 0, ["a"]), [2, 4])
        self.assertEqual(visits(trace, 1, ["a"]), [2, 4, 8, 10])
        self.assertEqual(visits(trace, 2, ["a"]), [2, 4, 8, 10])
        self.assertEqual(visits(trace, 0, ["u", "v", "a"]), [0, 1, 2, 4])
        self.assertEqual(visits(trace, 1, ["u", "v"]), [1])
        self.assertEqual(visits(trace, 2, ("v", "u")), [])

    def test_any_place_and_any_doors(self):
        for place in (-1, 2, 3, FORTY, -FORTY):
            self.assertEqual(visits(TRACE, place, ["set", "update"]), [])
        self.assertEqual(visits(TRACE, 0, []), [])
        self.assertEqual(visits(TRACE, 0, ["", "put", "go"]), [])
        self.assertEqual(visits(TRACE, 0, ["nothing", "set", "set"]), [1, 3])
        self.assertEqual(visits([], 0, ["set"]), [])
        self.assertEqual(visits(trace=tuple(TRACE), place=0, doors=("update",)), [0])

    def test_arguments_stay(self):
        trace, doors = list(TRACE), ["set"]
        visits(trace, 0, doors).append(7)
        self.assertEqual((trace, doors), (TRACE, ["set"]))
        self.assertEqual(visits(trace, 0, doors), [1, 3])

    def test_the_visits_of_a_box(self):
        study = study_of(*DEEP)
        for place in range(3):
            for doors in (["u"], ["v"], ["a"], ["u", "v", "a"]):
                box = Box(Heir(study, lambda door, key, value: value, *doors, place=place))
                box.put("u", (0, 0, 0), (1, 0, 0))
                rows = [box.rows[index] for index in visits(box.rows, place, doors)]
                self.assertEqual(
                    [(door, key) for door, key, value in box.journal],
                    [(row[2], number) for row in rows for number in row[6]])


class AroundTest(unittest.TestCase):
    def test_deep(self):
        trace = study_of(*DEEP).trace(case_of("u 0 0"))
        self.assertEqual([around(trace, index) for index in range(len(trace))], [
            [], [0], [0, 1], [0, 1, 2], [0, 1], [0, 1, 4], [0], [0], [0], [0, 8], [0], [0, 10]])

    def test_tuple_and_new_list(self):
        trace = list(TRACE)
        around(trace=trace, index=4).clear()
        self.assertEqual(around(tuple(trace), 4), [0, 3])
        self.assertEqual(trace, TRACE)

    def test_a_level_that_is_met_again(self):
        study = study_of(
            "door a one open", "door b one inner", "door c one inner", "class A",
            "  a: self.b, self.c, self.b", "  b: self.c", "  c: raw")
        trace = study.trace(case_of("a 0"))
        self.assertEqual(told(trace), [
            "0 a 0-0 0", "1 b 0-0 0", "2 c 0-0 0", "3 c 0 puts 0", "1 c 0-0 0", "2 c 0 puts 0",
            "1 b 0-0 0", "2 c 0-0 0", "3 c 0 puts 0"])
        self.assertEqual([around(trace, index) for index in (3, 5, 8)], [[0, 1, 2], [0, 4], [0, 6, 7]])


class JudgeTest(DoorTest):
    def setUp(self):
        self.study = Study(Library.read(TEXT))
        self.judge = Judge(self.study)
        self.case = case_of("update 1 0")
        self.trace = self.study.trace(self.case)

    def test_equal_rows(self):
        self.assertEqual(self.judge(self.case, self.trace), -1)
        self.assertEqual(self.judge(case=self.case, rows=tuple(self.trace)), -1)
        self.assertEqual(Judge(study=self.study)(self.case, list(self.trace)), -1)
        for case in self.study.cases(2):
            self.assertEqual(self.judge(case, self.study.trace(case)), -1)

    def test_too_short_and_too_long(self):
        self.assertEqual(len(self.trace), 6)
        for many in range(6):
            self.assertEqual(self.judge(self.case, self.trace[:many]), many)
        for more in (None, (), self.trace[0]):
            self.assertEqual(self.judge(self.case, [*self.trace, more]), 6)
            self.assertEqual(self.judge(self.case, [*self.trace, more, more]), 6)

    def test_the_first_entry_that_differs(self):
        for index, row in enumerate(self.trace):
            for at in range(len(row)):
                for value in (-7, "no", None, (), [], (5,), True):
                    if value == row[at]:
                        continue
                    rows = list(self.trace)
                    rows[index] = row[:at] + (value,) + row[at + 1:]
                    self.assertEqual(self.judge(self.case, rows), index, rows[index])
                    self.assertEqual(self.judge(self.case, rows[:index + 1]), index)

    def assert_differs(self, case, index, *entries):
        for entry in entries:
            rows = self.study.trace(case_of(case))
            rows[index] = entry
            with self.subTest(entry=entry):
                self.assertEqual(self.judge(case_of(case), rows), index)

    def test_kinds(self):
        self.assert_differs(
            "update own 0 0", 0,
            ("go", 0, "update", 0, 0, 1, (0, 1)), ("go", False, "update", 0, 0, True, (0, 1)),
            ("go", 0, "update", False, 0, True, (0, 1)), ("go", 0, "update", 0, 0, True, (False, 1)),
            ("go", 0, "update", 0, 0, True, (0, True)), ("go", 0, "update", 0, 0, True, [0, 1]),
            ["go", 0, "update", 0, 0, True, (0, 1)], ("go", 0, "update", 0, 0, True, (0,)),
            ("go", 0, "update", 0, 0, True, (0, 1, 2)), ("go", 0, "update", 0, 0, True, ((0, 1),)),
            ("go", 0, "update", 0, 0, True, "01"), ("go", 0, "update", 0, 0, "True", (0, 1)))
        self.assert_differs(
            "update own 0 0", 2,
            ("put", True, "update", 0, 1), ("put", 1, "update", 0, True), ("put", 1.0, "update", 0, 1),
            ("put", 1, "update", False, 1), ["put", 1, "update", 0, 1])
        self.assert_differs(
            "set 1", 1, ("go", 1, "check", 0, 1, 0, (0,)), ("go", True, "check", 0, 1, False, (0,)))

    def test_values_that_are_no_rows(self):
        deep = 1
        for _ in range(8):
            deep = [deep] if isinstance(deep, tuple) else (deep,)
        for entry in (None, True, False, 0, FORTY, -FORTY, "", "go", "go 0 update", (), [], deep, [[]],
                      ("go",), ("go", 0), ("go", 0, "update", 0, 0, False), ("put", 0, "update", 0, 0),
                      (*self.trace[0], 0), (self.trace[0],), (None,) * 7):
            with self.subTest(entry=entry):
                self.assertEqual(self.judge(self.case, [entry]), 0)
                self.assertEqual(self.judge(self.case, [*self.trace[:3], entry]), 3)
                self.assertEqual(self.judge(self.case, [self.trace[0], entry, *self.trace[2:]]), 1)

    def test_errors(self):
        study = study_of("door a one open", "door b one inner", "door m many make", "mark x",
                         "class Box")
        judge = Judge(study)
        for words, kind, name, value in (
                ("z 9", "NoDoor", "door", "z"), ("b 9h", "NotOpen", "door", "b"),
                ("a 9 9", "BadBatch", "door", "a"), ("m 0h 2", "BadMarks", "number", 2),
                ("m 0h 1", "Impossible", "case", case_of("m 0h 1"))):
            for rows in ([], [None], [FIRST]):
                self.assert_raises_door((kind, {name: value}), judge, case_of(words), rows)

    def test_arguments_stay(self):
        rows = [*self.trace[:2], [1, [2]]]
        before = repr(rows)
        self.assertEqual(self.judge(self.case, rows), 2)
        self.assertEqual(repr(rows), before)


if __name__ == "__main__":
    unittest.main()
