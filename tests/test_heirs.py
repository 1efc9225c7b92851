"""Heirs: their doors, what they visit, and the values that are passed on (points 12, 23 and 31)."""

import unittest

from everydoor.boxes import Box
from everydoor.heirs import Heir
from everydoor.library import Library
from everydoor.study import Study
from helper import FORTY, TEXT, DoorTest, study_of, told

NESTED = (
    "door a one open", "door b one inner", "door u many open", "door v many inner",
    "class Base", "  a: self.b, raw", "  u: all self.v, raw ; each self.a",
    "class Box(Base)", "  a: super.a, raw", "  b: super.b",
)


def keep(door, key, value):
    """A rule that changes nothing."""
    return value


class ReplacedTest(DoorTest):
    def setUp(self):
        self.study = Study(Library.read(TEXT))

    def test_attributes(self):
        heir = Heir(self.study, keep, "update", "set", place=2)
        self.assertIs(heir.study, self.study)
        self.assertIs(heir.rule, keep)
        self.assertEqual((heir.place, heir.replaced), (2, ("set", "update")))
        heir = Heir(rule=keep, study=self.study)
        self.assertEqual((heir.place, heir.replaced), (0, ()))

    def test_defined_in_the_class_itself(self):
        self.assertIsInstance(vars(Heir)["replaced"], property)
        self.assertIn("replace", vars(Heir))

    def test_order_and_duplicates(self):
        heir = Heir(self.study, keep, "check", "set", "check", "set")
        self.assertEqual(heir.replaced, ("set", "check"))
        self.assertIsInstance(heir.replaced, tuple)
        heir.replaced = ["check", "update", "check"]
        self.assertEqual(heir.replaced, ("update", "check"))
        heir.replaced = ("update", "set")
        self.assertEqual(heir.replaced, ("set", "update"))
        heir.replaced = []
        self.assertEqual(heir.replaced, ())
        self.assertEqual(heir.replace("update", "check", "set"), ("set", "update", "check"))
        self.assertEqual(heir.replaced, ("set", "update", "check"))
        self.assertEqual(heir.replace(), ())
        self.assertEqual(heir.replaced, ())

    def test_lists_are_copied(self):
        heir = Heir(self.study, keep)
        doors = ["update", "set"]
        heir.replaced = doors
        self.assertEqual(doors, ["update", "set"])
        doors.append("check")
        doors[0] = "nothing"
        self.assertEqual(heir.replaced, ("set", "update"))

    def test_errors(self):
        for place in (-1, 3, FORTY, -FORTY):
            for doors in ((), ("set",), ("nothing",)):
                self.assert_raises_door(
                    ("NoPlace", {"place": place}), Heir, self.study, keep, *doors, place=place)
        for doors in (("nothing",), ("set", "nothing", "none"), ("nothing", "set"), ("set", "nothing")):
            self.assert_raises_door(
                ("NoDoor", {"door": "nothing"}), Heir, self.study, keep, *doors, place=1)
        for door in ("", "text", "Box", "ground", "Set"):
            self.assert_raises_door(("NoDoor", {"door": door}), Heir, self.study, keep, door)
        for place in (0, 1, 2):
            self.assertEqual(Heir(self.study, keep, place=place).place, place)

    def test_errors_leave_the_set_as_it_was(self):
        heir = Heir(self.study, keep, "set")
        for doors in (["nothing"], ("update", "nothing", "none"), ["update", "nothing"]):
            wanted = ("NoDoor", {"door": "nothing"})
            self.assert_raises_door(wanted, setattr, heir, "replaced", doors)
            self.assertEqual(heir.replaced, ("set",))
            self.assert_raises_door(wanted, heir.replace, *doors)
            self.assertEqual(heir.replaced, ("set",))


class VisitTest(DoorTest):
    def journal(self, lines, place, doors, door, *items, own=False):
        box = Box(Heir(study_of(*lines), keep, *doors, place=place))
        box.put(door, *items, own=own)
        return [(name, key) for name, key, value in box.journal]

    def test_every_place(self):
        # Base is at 1: b goes 0-0 and then 1-2, a goes 0-0 and then 1-1.
        every = ("a", "b", "u", "v")
        self.assertEqual(self.journal(NESTED, 0, every, "a", (7, 0, 0)), [("a", 7), ("b", 7)])
        self.assertEqual(self.journal(NESTED, 1, every, "a", (7, 0, 0)), [("a", 7), ("b", 7)])
        self.assertEqual(self.journal(NESTED, 2, every, "a", (7, 0, 0)), [("b", 7)])
        self.assertEqual(
            self.journal(NESTED, 0, every, "u", (7, 0, 0), (8, 0, 0)),
            [("u", 7), ("u", 8), ("v", 7), ("v", 8), ("a", 7), ("b", 7), ("a", 8), ("b", 8)])
        self.assertEqual(
            self.journal(NESTED, 1, every, "u", (7, 0, 0), (8, 0, 0)),
            [("u", 7), ("u", 8), ("v", 7), ("v", 8), ("a", 7), ("b", 7), ("a", 8), ("b", 8)])
        self.assertEqual(
            self.journal(NESTED, 2, every, "u", (7, 0, 0), (8, 0, 0)),
            [("v", 7), ("v", 8), ("b", 7), ("b", 8)])

    def test_one_door_and_none(self):
        for place, wanted in ((0, [("b", 7)]), (1, [("b", 7)]), (2, [("b", 7)])):
            self.assertEqual(self.journal(NESTED, place, ["b"], "a", (7, 0, 0)), wanted)
        for place, wanted in ((0, [("a", 7)]), (1, [("a", 7)]), (2, [])):
            self.assertEqual(self.journal(NESTED, place, ["a"], "a", (7, 0, 0)), wanted)
            self.assertEqual(self.journal(NESTED, place, [], "a", (7, 0, 0)), [])

    def test_the_ground_alone_is_behind_the_last_place(self):
        lines = ("door a one open", "door u many open", "class Box", "  a: super.a", "  u: all raw")
        for place, wanted in ((0, [("a", 1)]), (1, [("a", 1)])):
            self.assertEqual(self.journal(lines, place, ["a", "u"], "a", (1, 0, 0)), wanted)
        for place, wanted in ((0, [("u", 1)]), (1, [])):
            self.assertEqual(self.journal(lines, place, ["a", "u"], "u", (1, 0, 0)), wanted)

    def test_marks_and_own_are_passed_on(self):
        lines = ("door u many open", "mark x", "class Box", "  u: if own then all raw else all drop")
        box = Box(Heir(study_of(*lines), lambda door, key, value: key - value, "u"))
        box.put("u", (9, 1, 4), (2, 0, 5), own=True)
        self.assertEqual(box.contents, [(9, 1, 5), (2, 0, -3)])
        box.put("u", (3, 1, 4), own=False)
        self.assertEqual(box.contents, [(9, 1, 5), (2, 0, -3)])
        self.assertEqual(box.journal, [("u", 9, 4), ("u", 2, 5), ("u", 3, 4)])


class ValueTest(DoorTest):
    def box_of(self, lines, rule, *doors, place=0):
        return Box(Heir(study_of(*lines), rule, *doors, place=place))

    def test_example_of_the_text(self):
        box = Box(Heir(Study(Library.read(TEXT)), lambda door, key, value: value + 100, "check"))
        box.put("set", (1, 1, 5))
        self.assertEqual((box.contents, box.journal), ([(1, 1, 5)], [("check", 1, 5)]))

    def test_one_within_another(self):
        lines = ("door a one open", "door b one inner", "door c one inner", "class Box",
                 "  a: self.b, raw", "  b: self.c, raw")
        box = self.box_of(lines, lambda door, key, value: value * 10 + "abc".index(door), "a", "b", "c")
        box.put("a", (1, 0, 7))
        self.assertEqual(box.journal, [("a", 1, 7), ("b", 1, 70), ("c", 1, 701)])
        # The bodies put 7012, 701 and 70 in turn; the outermost comes last.
        self.assertEqual(box.contents, [(1, 0, 70)])

    def test_behind_a_dispatch_the_old_value_holds(self):
        lines = ("door a one open", "door b one inner", "class Box", "  a: self.b, self.b", "  b: raw")
        box = self.box_of(lines, lambda door, key, value: value + 1, "b")
        box.put("a", (1, 0, 5))
        self.assertEqual(box.journal, [("b", 1, 5), ("b", 1, 5)])
        self.assertEqual(box.contents, [(1, 0, 6)])

    def test_next_items_and_phases_keep_their_values(self):
        lines = ("door u many open", "door v many inner", "door a one inner", "class Box",
                 "  u: all self.v ; each self.a ; all raw")
        box = self.box_of(lines, lambda door, key, value: value + 1, "v", "a")
        box.put("u", (1, 0, 10), (2, 0, 20))
        self.assertEqual(
            box.journal, [("v", 1, 10), ("v", 2, 20), ("a", 1, 10), ("a", 2, 20)])
        self.assertEqual(box.contents, [(1, 0, 10), (2, 0, 20)])
        box.heir.replace("u", "a")
        box.put("u", (2, 0, 30))
        self.assertEqual(box.journal[4:], [("u", 2, 30), ("a", 2, 31)])
        self.assertEqual(box.contents, [(1, 0, 10), (2, 0, 31)])

    def test_all_items_are_visited_before_the_body(self):
        lines = ("door u many open", "door a one inner", "class Box", "  u: each self.a")
        box = self.box_of(lines, lambda door, key, value: value * 2, "u", "a")
        box.put("u", (1, 0, 1), (2, 0, 2), (3, 0, 3))
        self.assertEqual([row[0] for row in box.journal], ["u", "u", "u", "a", "a", "a"])
        self.assertEqual(box.journal[3:], [("a", 1, 2), ("a", 2, 4), ("a", 3, 6)])
        self.assertEqual(box.contents, [(1, 0, 4), (2, 0, 8), (3, 0, 12)])

    def test_a_mixin_sees_the_value_that_the_body_in_front_has(self):
        box = self.box_of(NESTED, lambda door, key, value: value + 1, "a", "b", place=1)
        box.put("a", (1, 0, 5))
        # a crosses place 1 by super.a, b by super.b; Box puts the value that it was passed.
        self.assertEqual(box.journal, [("a", 1, 5), ("b", 1, 6)])
        self.assertEqual(box.contents, [(1, 0, 5)])

    def test_numbers_of_forty_digits(self):
        box = self.box_of(NESTED, lambda door, key, value: -value, "u")
        box.put("u", (FORTY, 0, FORTY), (-FORTY, 0, -FORTY), (0, 0, 0))
        self.assertEqual(box.contents, [(FORTY, 0, -FORTY), (-FORTY, 0, FORTY), (0, 0, 0)])
        self.assertEqual(
            box.journal, [("u", FORTY, FORTY), ("u", -FORTY, -FORTY), ("u", 0, 0)])

    def test_zero_is_no_refusal(self):
        box = self.box_of(NESTED, lambda door, key, value: 0, "u")
        box.put("u", (1, 0, 9))
        self.assertEqual(box.contents, [(1, 0, 0)])

    def test_a_rule_with_a_memory(self):
        asked = []

        def rule(door, key, value):
            asked.append((door, key, value))
            return None if len(asked) == 4 else len(asked)

        box = self.box_of(("door u many open", "class Box"), rule, "u")
        box.put("u", (5, 0, 50), (6, 0, 60))
        self.assertEqual(box.contents, [(5, 0, 1), (6, 0, 2)])
        self.assert_raises_door(
            ("Refused", {"door": "u", "key": 6, "value": 90}),
            box.put, "u", (5, 0, 80), (6, 0, 90), (7, 0, 100))
        self.assertEqual(box.contents, [(5, 0, 1), (6, 0, 2)])
        box.put("u", (6, 0, 90))
        self.assertEqual(box.contents, [(5, 0, 1), (6, 0, 5)])
        self.assertEqual(box.journal, asked)
        self.assertEqual(len(asked), 5)

    def test_a_rule_that_is_no_lambda(self):
        class Rule:
            def __call__(self, door, key, value):
                return value + key

        box = self.box_of(("door a one open", "class Box"), Rule(), "a")
        box.put("a", (5, 0, 50))
        self.assertEqual(box.contents, [(5, 0, 55)])


class RefusalTest(DoorTest):
    def refuse(self, *refused):
        return lambda door, key, value: None if (door, key) in refused else value + 1

    def test_in_the_middle_of_a_batch(self):
        box = Box(Heir(Study(Library.read(TEXT)), self.refuse(("set", 3)), "set"))
        self.assert_raises_door(
            ("Refused", {"door": "set", "key": 3, "value": 30}),
            box.put, "update", (1, 0, 10), (2, 1, 20), (3, 0, 30), (4, 0, 40))
        self.assertEqual(box.contents, [(1, 0, 11), (2, 1, 21)])
        self.assertEqual(box.journal, [("set", 1, 10), ("set", 2, 20), ("set", 3, 30)])
        self.assertEqual(told(box.rows), [
            "0 update 0-0 0,1,2,3", "1 set 0-1 0", "2 set 1 puts 0", "1 set 0-1 1",
            "2 check 0-1 1", "2 set 1 puts 1", "1 set 0-1 2"])

    def test_before_the_body_begins(self):
        box = Box(Heir(Study(Library.read(TEXT)), self.refuse(("update", 2)), "update", "set"))
        self.assert_raises_door(
            ("Refused", {"door": "update", "key": 2, "value": 20}),
            box.put, "update", (1, 0, 10), (2, 1, 20), (3, 0, 30))
        self.assertEqual(box.contents, [])
        self.assertEqual(box.journal, [("update", 1, 10), ("update", 2, 20)])
        self.assertEqual(told(box.rows), ["0 update 0-0 0,1,2"])

    def test_the_value_that_a_visit_has_changed(self):
        lines = ("door a one open", "door b one inner", "class Box", "  a: raw, self.b, raw")
        box = Box(Heir(study_of(*lines), self.refuse(("b", 1)), "a", "b"))
        self.assert_raises_door(
            ("Refused", {"door": "b", "key": 1, "value": 6}), box.put, "a", (1, 0, 5))
        self.assertEqual(box.contents, [(1, 0, 6)])
        self.assertEqual(told(box.rows), ["0 a 0-0 0", "1 a 0 puts 0", "1 b 0-1 0"])

    def test_an_item_that_was_replaced_stays_replaced(self):
        study = study_of("door u many open", "door a one inner", "class Box", "  u: all raw ; each self.a")
        box = Box(Heir(study, self.refuse(("a", 2)), "a"))
        box.put("u", (1, 0, 1))
        self.raised(box.put, "u", (2, 0, 2), (1, 0, 7))
        self.assertEqual(box.contents, [(1, 0, 7), (2, 0, 2)])


if __name__ == "__main__":
    unittest.main()
