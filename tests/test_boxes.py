"""Boxes: calls with their errors, rows and journals, `holding` and `try_out` (points 24 to 27)."""

import unittest

from everydoor.boxes import Box, try_out
from everydoor.heirs import Heir
from everydoor.library import Library
from everydoor.study import Study
from helper import FORTY, TEXT, DoorTest, case_of, study_of, told

DOORS = (
    "door a one open", "door b one inner", "door u many open", "door v many inner",
    "door m many make", "mark x", "class Box", "  u: if own then all raw else each raw",
)


def keep(door, key, value):
    """A rule that changes nothing."""
    return value


def told_of(box):
    """All that a box tells, copied."""
    return [list(box.contents), list(box.journal), list(box.rows), list(box), len(box)]


class ExampleTest(DoorTest):
    def test_example(self):
        heir = Heir(Study(Library.read(TEXT)),
                    lambda door, key, value: value + 10 if value < 2 else None, "set")
        box = Box(heir)
        trial = try_out(box, "update", (7, 0, 1), (8, 1, 2))
        many = box.put("update", (5, 0, 2), own=True)
        self.assertEqual([trial, many, box.contents, box.journal], [
            (("set", 8, 2), [(7, 0, 11)], [("set", 7, 1), ("set", 8, 2)]), 1, [(5, 0, 2)], []])

    def test_defined_in_the_class_itself(self):
        for name in ("made", "holding"):
            self.assertIsInstance(vars(Box)[name], classmethod)
        for name in ("contents", "journal", "rows"):
            self.assertIsInstance(vars(Box)[name], property)
        for name in ("put", "__init__", "__setitem__", "__ior__", "__iadd__", "__contains__",
                     "__len__", "__getitem__", "__iter__", "__eq__"):
            self.assertIn(name, vars(Box))


class PutTest(DoorTest):
    def setUp(self):
        self.study = study_of(*DOORS)
        self.heir = Heir(self.study, keep, "a", "u")
        self.box = Box(heir=self.heir)

    def test_a_new_box(self):
        self.assertEqual(told_of(self.box), [[], [], [], [], 0])
        self.assertIs(self.box.heir, self.heir)

    def test_one(self):
        self.assertEqual(self.box.put("a", (5, 1, 50)), 1)
        self.assertEqual(
            told_of(self.box),
            [[(5, 1, 50)], [("a", 5, 50)], self.study.trace(case_of("a 1")), [5], 1])

    def test_rows_are_those_of_the_last_call(self):
        self.box.put("u", (5, 1, 50), (6, 0, 60))
        self.assertEqual(told(self.box.rows), ["0 u 0-0 0,1", "1 u 0 puts 0", "1 u 0 puts 1"])
        self.assertEqual(self.box.rows, self.study.trace(case_of("u 1 0")))
        self.box.put("u", (6, 1, 61), own=True)
        self.assertEqual(told(self.box.rows), ["0 u 0-0 own 0", "1 u 0 puts 0"])
        self.assertEqual(repr(self.box.rows[0]), "('go', 0, 'u', 0, 0, True, (0,))")

    def test_the_number_of_puts(self):
        study = study_of("door u many open", "door a one open", "class Box",
                         "  u: all raw, raw ; each raw", "  a: drop")
        box = Box(Heir(study, keep))
        self.assertEqual(box.put("u", (1, 0, 1), (2, 0, 2)), 6)
        self.assertEqual(box.put("a", (1, 0, 1)), 0)
        self.assertEqual(box.put("u"), 0)

    def test_the_order_of_the_store(self):
        self.box.put("u", (5, 0, 1), (3, 1, 2), (4, 0, 3))
        self.box.put("u", (4, 1, 4), (9, 0, 5), (5, 1, 6))
        self.assertEqual(self.box.contents, [(5, 1, 6), (3, 1, 2), (4, 1, 4), (9, 0, 5)])
        self.assertEqual(list(self.box), [5, 3, 4, 9])

    def test_held_is_asked_of_the_store(self):
        study = study_of("door a one open", "class Box", "  a: if held then drop | raw")
        box = Box(Heir(study, keep))
        self.assertEqual([box.put("a", (5, 0, 1)), box.put("a", (5, 0, 2))], [1, 0])
        self.assertEqual((box.contents, told(box.rows)), ([(5, 0, 1)], ["0 a 0-0 0"]))

    def test_items_may_be_lists(self):
        item = [5, 1, 50]
        self.box.put("u", item, (6, 0, 1))
        item[2] = 7
        self.assertEqual(self.box.contents, [(5, 1, 50), (6, 0, 1)])
        self.assertEqual(item, [5, 1, 7])

    def test_an_empty_batch(self):
        self.box.put("u", (5, 1, 50))
        for own in (False, True):
            self.box.put("a", (6, 0, 1))
            before = self.box.journal
            self.assertEqual(self.box.put("u", own=own), 0)
            self.assertEqual(self.box.rows, [])
            self.assertEqual(self.box.journal, before)
            self.assertEqual(self.box.contents, [(5, 1, 50), (6, 0, 1)])

    def test_errors_of_an_empty_batch(self):
        self.box.put("a", (5, 1, 50))
        before = told_of(self.box)
        for door, kind in (("z", "NoDoor"), ("b", "NotOpen"), ("v", "NotOpen"), ("m", "NotOpen"),
                           ("a", "BadBatch")):
            self.assert_raises_door((kind, {"door": door}), self.box.put, door)
            self.assertEqual(told_of(self.box), before)

    def test_forty_items(self):
        study = study_of("door u many open", "door a one inner", "mark x", "class Box",
                         "  u: all raw ; each if x then self.a | super.u")
        box = Box(Heir(study, lambda door, key, value: value + 1, "u", "a"))
        items = [(key * 7, key % 2, key) for key in range(40)]
        self.assertEqual(box.put("u", *items), 80)
        self.assertEqual(box.contents, [
            (key * 7, key % 2, key + 2) if key % 2 else (key * 7, 0, key + 1) for key in range(40)])
        self.assertEqual(len(box.journal), 60)
        self.assertEqual(box.rows[0][6], tuple(range(40)))
        self.assertEqual(len(box.rows), 1 + 40 + 80)

    def test_errors(self):
        same = [(5, 0, 1), (5, 1, 2)]
        box = self.box
        box.put("u", (5, 1, 50), (6, 0, 60))
        before = told_of(box)
        for kind, name, value, door, items, own in (
                ("NoDoor", "door", "z", "z", [(5, 9, 1), (5, 9, 1)], True),
                ("NoDoor", "door", "", "", [(5, 0, 1)], False),
                ("NoDoor", "door", "x", "x", [(5, 0, 1)], False),
                ("NotOpen", "door", "b", "b", [(5, 9, 1), (5, 9, 1)], True),
                ("NotOpen", "door", "v", "v", [(5, 9, 1), (5, 9, 1)], True),
                ("NotOpen", "door", "m", "m", [(5, 9, 1), (5, 9, 1)], True),
                ("NotOpen", "door", "m", "m", [(7, 0, 1)], False),
                ("BadBatch", "door", "a", "a", [(5, 9, 1), (7, 9, 1)], False),
                ("BadBatch", "door", "a", "a", [(5, 9, 1)], True),
                ("BadBatch", "door", "a", "a", [], False),
                ("BadBatch", "door", "u", "u", [(5, 9, 1), (6, 0, 1), (5, 9, 1)], False),
                ("BadBatch", "door", "u", "u", same, True),
                ("BadMarks", "number", 2, "a", [(5, 2, 1)], False),
                ("BadMarks", "number", -1, "u", [(5, 0, 1), (7, -1, 1), (8, 2, 1)], True),
                ("BadMarks", "number", FORTY, "u", [(5, FORTY, 1), (7, -1, 1)], False)):
            with self.subTest(door=door, items=items, own=own):
                for action in (box.put, lambda *row, own: try_out(box, *row, own=own)):
                    self.assert_raises_door((kind, {name: value}), action, door, *items, own=own)
                    self.assertEqual(told_of(box), before)

    def test_the_rule_is_not_asked_before_an_error(self):
        asked = []
        box = Box(Heir(self.study, lambda *row: asked.append(row), "a", "u", "m"))
        self.raised(box.put, "u", (1, 0, 1), (1, 0, 1))
        self.raised(box.put, "u", (1, 0, 1), (2, 5, 1))
        self.raised(Box.made, box.heir, "m", (1, 0, 1), (2, 5, 1))
        self.raised(Box.holding, box.heir, (1, 0), (2, 0), (1, 0))
        self.assertEqual(asked, [])

    def test_rows_behind_a_refused_call(self):
        box = Box(Heir(self.study, lambda door, key, value: None if value < 0 else value, "u", "a"))
        box.put("u", (1, 0, 1))
        self.assert_raises_door(
            ("Refused", {"door": "u", "key": 3, "value": -1}), box.put, "u", (2, 0, 2), (3, 0, -1))
        self.assertEqual(told(box.rows), ["0 u 0-0 0,1"])
        self.assertEqual(box.journal, [("u", 1, 1), ("u", 2, 2), ("u", 3, -1)])
        self.raised(box.put, "a", (2, 9, 0))
        self.assertEqual(told(box.rows), ["0 u 0-0 0,1"])
        box.put("a", (2, 1, 0))
        self.assertEqual(told(box.rows), ["0 a 0-1 0", "1 a 1 puts 0"])
        self.assertEqual(box.journal[3:], [("a", 2, 0)])

    def test_doors_are_replaced_between_calls(self):
        box, other = self.box, Box(self.heir)
        box.put("a", (1, 0, 1))
        self.heir.replaced = ["u"]
        box.put("a", (2, 0, 2))
        box.put("u", (3, 0, 3))
        other.put("u", (4, 0, 4))
        self.heir.replace()
        box.put("u", (5, 0, 5))
        self.raised(setattr, self.heir, "replaced", ["a", "z"])
        box.put("a", (6, 0, 6))
        self.heir.replace("a")
        other.put("a", (7, 0, 7))
        self.assertEqual(box.journal, [("a", 1, 1), ("u", 3, 3)])
        self.assertEqual(other.journal, [("u", 4, 4), ("a", 7, 7)])

    def test_returned_lists_are_new(self):
        box = self.box
        box.put("u", (1, 0, 1), (2, 1, 2))
        before = told_of(box)
        for found in (box.contents, box.journal, box.rows):
            found.reverse()
            found[0] = 7
            found.append(("put", 0))
        self.assertEqual(told_of(box), before)
        rows = box.rows
        box.put("u", (3, 0, 1), (1, 1, 1))
        self.assertEqual(rows, before[2])
        self.assertEqual(box.rows, self.study.trace(case_of("u 0 1h")))

    def test_boxes_share_nothing_but_their_heir(self):
        other = Box(self.heir)
        self.box.put("u", (1, 0, 1))
        self.assertEqual(told_of(other), [[], [], [], [], 0])
        other.put("a", (2, 1, 2))
        self.assertEqual(self.box.contents, [(1, 0, 1)])
        self.assertEqual(self.box.journal, [("u", 1, 1)])
        self.assertEqual(told(self.box.rows)[0], "0 u 0-0 0")
        self.assertIs(other.heir, self.box.heir)


class MadeTest(DoorTest):
    def setUp(self):
        self.heir = Heir(study_of(*DOORS), keep, "m")

    def test_made(self):
        box = Box.made(self.heir, "m", (5, 1, 50), [6, 0, 60])
        self.assertIsInstance(box, Box)
        self.assertEqual(box.contents, [(5, 1, 50), (6, 0, 60)])
        self.assertEqual(box.journal, [("m", 5, 50), ("m", 6, 60)])
        self.assertEqual(told(box.rows), ["0 m 0-1 0,1", "1 m 1 puts 0", "1 m 1 puts 1"])
        self.assertIs(box.heir, self.heir)
        box = Box.made(self.heir, "m", (5, 1, 50), own=True)
        self.assertEqual(told(box.rows), ["0 m 0-1 own 0", "1 m 1 puts 0"])

    def test_an_empty_batch(self):
        for own in (False, True):
            self.assertEqual(told_of(Box.made(heir=self.heir, door="m", own=own)), [[], [], [], [], 0])

    def test_errors(self):
        bad = [(5, 9, 1), (5, 9, 1)]
        for door, kind in (("z", "NoDoor"), ("a", "NotOpen"), ("b", "NotOpen"), ("u", "NotOpen"),
                           ("v", "NotOpen"), ("m", "BadBatch")):
            self.assert_raises_door((kind, {"door": door}), Box.made, self.heir, door, *bad, own=True)
        for door, kind in (("z", "NoDoor"), ("a", "NotOpen"), ("u", "NotOpen")):
            self.assert_raises_door((kind, {"door": door}), Box.made, self.heir, door)
        self.assert_raises_door(
            ("BadMarks", {"number": 2}), Box.made, self.heir, "m", (1, 1, 1), (2, 2, 2), (3, 3, 3))

    def test_refused(self):
        heir = Heir(self.heir.study, lambda door, key, value: None if key == 6 else value, "m")
        self.assert_raises_door(
            ("Refused", {"door": "m", "key": 6, "value": 60}),
            Box.made, heir, "m", (5, 0, 50), (6, 0, 60))

    def test_calls_on_a_made_box(self):
        box = Box.made(self.heir, "m", (5, 1, 50))
        box.put("u", (5, 0, 51), (6, 0, 60))
        self.assertEqual(box.contents, [(5, 0, 51), (6, 0, 60)])
        self.assertEqual(box.journal, [("m", 5, 50)])
        self.assertEqual(box.rows[0][2], "u")


class HoldingTest(DoorTest):
    def assert_holding(self, opening, lines, *doors):
        """Keys stand in their order, with marks of the opening and values of the rule."""
        with self.subTest(lines=lines):
            study = study_of(*lines)
            self.assertEqual(study.opening, case_of(opening))
            asked = []

            def rule(door, key, value):
                asked.append((door, key, value))
                return value * 2

            box = Box.holding(Heir(study, rule, *doors), (9, 1), (2, 20), [5, 300])
            marks = study.opening.states[0][0]
            self.assertEqual(box.contents, [(9, marks, 2), (2, marks, 40), (5, marks, 600)])
            self.assertEqual((box.journal, box.rows), ([], []))
            return asked

    def test_openings_of_each_kind(self):
        one = ("door a one open", "class Box")
        self.assertEqual(self.assert_holding("a 0", one, "a"), [("a", 9, 1), ("a", 2, 20), ("a", 5, 300)])
        many = ("door u many open", "class Box")
        self.assertEqual(
            self.assert_holding("u 0", many, "u"), [("u", 9, 1), ("u", 2, 20), ("u", 5, 300)])
        make = ("door b one inner", "door m many make", "mark x", "class Box",
                "  m: each if x then self.b | drop")
        self.assertEqual(
            self.assert_holding("m 1", make, "b"), [("b", 9, 1), ("b", 2, 20), ("b", 5, 300)])
        own = ("door u many open", "mark x", "mark y", "class Box",
               "  u: if own then each if y then raw | drop else all drop")
        self.assert_holding("u own 2", own, "u")
        own = ("door m many make", "class Box", "  m: if own then all raw else all drop")
        self.assert_holding("m own 0", own, "m")

    def test_one_call_or_several(self):
        lines = ("door a one inner", "door u many open", "class Box", "  u: all drop ; each self.a")
        asked = self.assert_holding("u 0", lines, "a")
        self.assertEqual(asked, [("a", 9, 1), ("a", 2, 20), ("a", 5, 300)])
        study = study_of("door u many open", "door a one inner", "class Box", "  u: each self.a")
        asked = []

        def rule(door, key, value):
            asked.append((door, key))
            return value

        Box.holding(Heir(study, rule, "u", "a"), (1, 0), (2, 0))
        self.assertEqual(asked, [("u", 1), ("u", 2), ("a", 1), ("a", 2)])
        study = study_of("door b one open", "door a one inner", "class Box", "  b: self.a")
        asked.clear()
        Box.holding(Heir(study, rule, "b", "a"), (1, 0), (2, 0))
        self.assertEqual(asked, [("b", 1), ("a", 1), ("b", 2), ("a", 2)])

    def test_no_pairs(self):
        for lines in (("door a one open", "class Box"), ("door a one inner", "class Box"),
                      ("door m many make", "class Box")):
            heir = Heir(study_of(*lines), keep)
            box = Box.holding(heir)
            self.assertEqual(told_of(box), [[], [], [], [], 0])
            self.assertIs(box.heir, heir)

    def test_no_opening(self):
        heir = Heir(study_of("door a one open", "class Box", "  a: drop"), keep, "a")
        self.assert_raises_door(("NoOpening", {}), Box.holding, heir, (1, 1))
        self.assert_raises_door(("NoOpening", {}), Box.holding, heir, (1, 1), (1, 1))
        self.assertEqual(len(Box.holding(heir)), 0)

    def test_equal_keys(self):
        for lines, door in ((("door b one inner", "door a one open", "class Box"), "a"),
                            (("door u many open", "class Box"), "u"),
                            (("door m many make", "class Box"), "m")):
            heir = Heir(study_of(*lines), lambda *row: None, door)
            self.assert_raises_door(
                ("BadBatch", {"door": door}), Box.holding, heir, (1, 1), (2, 2), (1, 3))

    def test_refused(self):
        for door, kind in (("a", "one open"), ("u", "many open"), ("m", "many make")):
            study = study_of(f"door {door} {kind}", "class Box")
            heir = Heir(study, lambda name, key, value: None if key > 1 else value, door)
            self.assert_raises_door(
                ("Refused", {"door": door, "key": 2, "value": 20}),
                Box.holding, heir, (1, 10), (2, 20), (3, 30))

    def test_forty_pairs(self):
        for door, kind in (("a", "one open"), ("u", "many open"), ("m", "many make")):
            heir = Heir(study_of(f"door {door} {kind}", "class Box"), keep, door)
            box = Box.holding(heir, *[(-key, key) for key in range(40)])
            self.assertEqual(box.contents, [(-key, 0, key) for key in range(40)])

    def test_calls_on_a_box_that_holds(self):
        heir = Heir(Study(Library.read(TEXT)), keep, "set")
        box = Box.holding(heir, (1, 10), (2, 20))
        box.put("update", (2, 1, 21), (3, 0, 30))
        self.assertEqual(box.contents, [(1, 0, 10), (2, 1, 21), (3, 0, 30)])
        self.assertEqual(box.journal, [("set", 2, 21), ("set", 3, 30)])


class TryOutTest(DoorTest):
    def setUp(self):
        heir = Heir(Study(Library.read(TEXT)),
                    lambda door, key, value: None if value < 0 else value + 1, "set")
        self.box = Box(heir)
        self.box.put("update", (5, 1, 50), (6, 0, 60))
        self.before = told_of(self.box)

    def test_a_call_that_is_not_refused(self):
        found = try_out(self.box, "update", (6, 1, 61), (4, 0, 40))
        self.assertEqual(found, (
            None, [(5, 1, 51), (6, 1, 62), (4, 0, 41)], [("set", 6, 61), ("set", 4, 40)]))
        self.assertIsInstance(found, tuple)
        self.assertEqual(told_of(self.box), self.before)

    def test_own(self):
        found = try_out(box=self.box, door="update", own=True)
        self.assertEqual(found, (None, self.box.contents, []))
        found = try_out(self.box, "update", (7, 0, -7), own=True)
        self.assertEqual(found, (None, [(5, 1, 51), (6, 0, 61), (7, 0, -7)], []))
        self.assertEqual(told_of(self.box), self.before)

    def test_a_refused_call(self):
        found = try_out(self.box, "update", (7, 0, 70), (6, 0, -1), (8, 0, 80))
        self.assertEqual(found, (
            ("set", 6, -1), [(5, 1, 51), (6, 0, 61), (7, 0, 71)], [("set", 7, 70), ("set", 6, -1)]))
        self.assertIsInstance(found[0], tuple)
        self.assertEqual(told_of(self.box), self.before)

    def test_errors(self):
        for kind, name, value, door, items in (
                ("NoDoor", "door", "z", "z", []), ("NotOpen", "door", "check", "check", [(5, 0, 1)]),
                ("BadBatch", "door", "set", "set", [(5, 0, 1), (6, 0, 1)]),
                ("BadMarks", "number", 2, "update", [(5, 0, 1), (6, 2, 1)])):
            self.assert_raises_door((kind, {name: value}), try_out, self.box, door, *items)
            self.assertEqual(told_of(self.box), self.before)

    def test_what_the_rule_remembers_is_not_undone(self):
        asked = []

        def rule(door, key, value):
            asked.append(key)
            return len(asked)

        box = Box(Heir(study_of("door a one open", "class Box"), rule, "a"))
        self.assertEqual(try_out(box, "a", (5, 0, 0))[1], [(5, 0, 1)])
        box.put("a", (5, 0, 0))
        self.assertEqual(box.contents, [(5, 0, 2)])
        self.assertEqual(asked, [5, 5])

    def test_returned_lists_are_new(self):
        refused, contents, visits = try_out(self.box, "set", (1, 0, 1))
        contents.clear()
        visits.append(7)
        self.assertEqual(told_of(self.box), self.before)
        self.assertEqual(try_out(self.box, "set", (1, 0, 1))[1:], (
            [(5, 1, 51), (6, 0, 61), (1, 0, 2)], [("set", 1, 1)]))


if __name__ == "__main__":
    unittest.main()
