"""The operators of boxes (point 28)."""

import unittest

from everydoor.boxes import Box
from everydoor.heirs import Heir
from everydoor.library import Library
from everydoor.study import Study
from helper import FORTY, TEXT, DoorTest, study_of, told


def keep(door, key, value):
    """A rule that changes nothing."""
    return value


def set_item(box, item):
    key, marks, value = item
    box[key] = (marks, value)


def update(box, *items):
    box |= list(items)
    return box


def extend(box, *items):
    box += list(items)
    return box


class CallTest(DoorTest):
    """Each operator with a door of its name that takes one, many, is inner, makes or is missing."""

    def box_of(self, *lines):
        study = study_of(*lines)
        return Box(Heir(study, keep, *[name for name, _, _ in study.library.doors]))

    def test_set(self):
        for takes in ("one", "many"):
            box = self.box_of(f"door set {takes} open", "mark x", "class Box")
            box[5] = (1, 50)
            box[6] = [0, 60]
            box[5] = (0, 51)
            self.assertEqual(box.contents, [(5, 0, 51), (6, 0, 60)])
            self.assertEqual(box.journal, [("set", 5, 50), ("set", 6, 60), ("set", 5, 51)])
            self.assertEqual(told(box.rows), ["0 set 0-1 0", "1 set 1 puts 0"])
            self.assert_raises_door(("BadMarks", {"number": 2}), set_item, box, (7, 2, 0))
            self.assertNotIn(7, box)

    def test_set_is_not_own(self):
        box = self.box_of("door set many open", "class Box", "  set: if own then all drop else all raw")
        box[1] = (0, 1)
        self.assertEqual(box.contents, [(1, 0, 1)])

    def test_doors_that_are_missing_or_not_open(self):
        for door, action in (("set", set_item), ("update", update), ("extend", extend)):
            box = self.box_of("door a one open", "class Box")
            self.assert_raises_door(("NoDoor", {"door": door}), action, box, (1, 9, 1))
            for kind in ("one inner", "many inner", "many make"):
                box = self.box_of(f"door {door} {kind}", "class Box")
                self.assert_raises_door(("NotOpen", {"door": door}), action, box, (1, 9, 1))
                self.assertEqual((box.contents, box.journal, box.rows), ([], [], []))

    def test_update_and_extend(self):
        for door, action in (("update", update), ("extend", extend)):
            box = self.box_of(f"door {door} many open", "mark x", "class Box",
                              f"  {door}: if own then all drop else all raw")
            self.assertIs(action(box, (5, 1, 50), (6, 0, 60)), box)
            self.assertEqual(box.contents, [(5, 1, 50), (6, 0, 60)])
            self.assertEqual(told(box.rows), [
                f"0 {door} 0-0 0,1", f"1 {door} 0 puts 0", f"1 {door} 0 puts 1"])
            self.assertIs(action(box), box)
            self.assertEqual((box.rows, len(box.journal)), ([], 2))
            self.assert_raises_door(
                ("BadBatch", {"door": door}), action, box, (7, 0, 1), (7, 9, 1))
            self.assert_raises_door(
                ("BadMarks", {"number": 9}), action, box, (7, 0, 1), (8, 9, 1))
            self.assertEqual(box.contents, [(5, 1, 50), (6, 0, 60)])

    def test_update_and_extend_that_take_one(self):
        for door, action in (("update", update), ("extend", extend)):
            box = self.box_of(f"door {door} one open", "class Box")
            action(box, (5, 0, 50))
            self.assertEqual(box.contents, [(5, 0, 50)])
            for items in ((), ((1, 0, 1), (2, 0, 2)), ((1, 9, 1), (1, 9, 1))):
                self.assert_raises_door(("BadBatch", {"door": door}), action, box, *items)
            self.assertEqual(box.contents, [(5, 0, 50)])

    def test_each_operator_has_its_door(self):
        box = self.box_of("door extend many open", "door update many open", "door set one open",
                          "class Box")
        box[1] = (0, 1)
        box |= [(2, 0, 2)]
        box += ((3, 0, 3),)
        self.assertEqual(box.journal, [("set", 1, 1), ("update", 2, 2), ("extend", 3, 3)])

    def test_the_name_means_the_same_box(self):
        box = self.box_of("door extend many open", "door update many open", "class Box")
        same = box
        box |= [(1, 0, 1)]
        box += [(2, 0, 2)]
        self.assertIs(box, same)
        boxes = {"one": box}
        boxes["one"] |= [(3, 0, 3)]
        boxes["one"] += [(4, 0, 4)]
        self.assertIs(boxes["one"], same)
        self.assertEqual(len(same), 4)

    def test_the_items_stay(self):
        box = self.box_of("door extend many open", "door update many open", "class Box")
        items = [[1, 0, 1], (2, 0, 2)]
        box |= items
        box += items
        self.assertEqual(items, [[1, 0, 1], (2, 0, 2)])
        items[0][2] = 9
        items.pop()
        self.assertEqual(box.contents, [(1, 0, 1), (2, 0, 2)])

    def test_refused(self):
        study = study_of("door set one open", "door update many open", "door extend many open",
                         "class Box", "  update: each self.set", "  extend: all raw")
        box = Box(Heir(study, lambda door, key, value: None if value < 0 else value, "set", "extend"))
        wanted = ("Refused", {"door": "set", "key": 1, "value": -1})
        self.assert_raises_door(wanted, set_item, box, (1, 0, -1))
        wanted = ("Refused", {"door": "set", "key": 2, "value": -2})
        self.assert_raises_door(wanted, update, box, (1, 0, 1), (2, 0, -2), (3, 0, 3))
        wanted = ("Refused", {"door": "extend", "key": 4, "value": -4})
        self.assert_raises_door(wanted, extend, box, (3, 0, 3), (4, 0, -4))
        self.assertEqual(box.contents, [(1, 0, 1)])
        self.assertEqual(told(box.rows), ["0 extend 0-0 0,1"])


class StoreTest(DoorTest):
    def setUp(self):
        self.heir = Heir(Study(Library.read(TEXT)), keep, "set")
        self.box = Box(self.heir)
        self.box |= [(5, 1, 50), (-3, 0, FORTY), (FORTY, 0, -1)]

    def test_asking_the_store(self):
        for key, pair in ((5, (1, 50)), (-3, (0, FORTY)), (FORTY, (0, -1))):
            self.assertTrue(key in self.box)
            self.assertEqual(self.box[key], pair)
            self.assertIsInstance(self.box[key], tuple)
        self.assertEqual(len(self.box), 3)
        self.assertEqual(len(Box(self.heir)), 0)
        self.assertEqual([key for key in self.box], [5, -3, FORTY])

    def test_missing(self):
        for key in (0, 1, 3, -FORTY):
            self.assertFalse(key in self.box)
            self.assert_raises_door(("Missing", {"key": key}), lambda: self.box[key])
        self.assert_raises_door(("Missing", {"key": 5}), lambda: Box(self.heir)[5])

    def test_asking_makes_no_call(self):
        before = [list(rows) for rows in (self.box.contents, self.box.journal, self.box.rows)]
        self.assertTrue(5 in self.box and self.box[5] and list(self.box) and len(self.box))
        self.raised(lambda: self.box[0])
        self.assertTrue(self.box == self.box)
        self.assertEqual([self.box.contents, self.box.journal, self.box.rows], before)

    def test_equal(self):
        other = Box(Heir(study_of("door u many open", "mark x", "class Box"), keep, "u"))
        other.put("u", (FORTY, 0, -1), (5, 0, 0))
        self.assertFalse(self.box == other)
        other.put("u", (5, 1, 50), (-3, 0, FORTY))
        self.assertTrue(self.box == other)
        self.assertTrue(other == self.box)
        self.assertFalse(self.box != other)
        self.assertTrue(Box(self.heir) == Box(other.heir))

    def test_unequal(self):
        items = [(5, 1, 50), (-3, 0, FORTY), (FORTY, 0, -1)]
        for changed in (items[:2], [*items, (1, 0, 0)], [(5, 0, 50), *items[1:]],
                        [(5, 1, 51), *items[1:]], [(6, 1, 50), *items[1:]], []):
            other = Box(self.heir)
            other.put("update", *changed)
            self.assertFalse(self.box == other)
            self.assertTrue(self.box != other)

    def test_unequal_to_other_values(self):
        class Twin:
            def __init__(self, box):
                self.__dict__.update(vars(box))

            def __eq__(self, other):
                return True

        pairs = {5: (1, 50), -3: (0, FORTY), FORTY: (0, -1)}
        for other in (None, 3, [5, -3, FORTY], pairs, self.box.contents, Twin(self.box)):
            self.assertFalse(self.box == other)
            self.assertTrue(self.box != other)


if __name__ == "__main__":
    unittest.main()
