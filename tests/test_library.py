"""What a library tells: its text, its order and its dispatches (points 8 and 10 to 12)."""

import unittest

from everydoor.library import Library
from helper import TEXT, DoorTest

DIAMOND = (
    "door set one open\ndoor update many make\ndoor none many inner\nmark text\nmark big\n"
    "class Other\n  none: all raw\n"
    "class A\n  set: raw\n"
    "class B(A)\n  update: all raw\n"
    "class C(A)\n  update: each self.set\n  set: super.set\n"
    "class D(B, C)"
)


class LibraryTest(DoorTest):
    def test_example(self):
        library = Library.read(TEXT)
        found = [library.order, library.dispatch("set"), library.dispatch("check", start=2)]
        self.assertEqual(found, [["Box", "Base"], (1, [0, 1]), (2, [2])])

    def test_properties(self):
        library = Library.read(text=DIAMOND)
        self.assertEqual(library.text, DIAMOND)
        self.assertEqual(library.doors, [
            ("set", "one", "open"), ("update", "many", "make"), ("none", "many", "inner")])
        self.assertEqual(library.marks, ["text", "big"])
        self.assertEqual(library.classes, ["Other", "A", "B", "C", "D"])
        self.assertEqual(library.order, ["D", "B", "C", "A"])
        self.assertEqual(Library.read("door a one open\nclass Box").marks, [])

    def test_defined_in_the_class_itself(self):
        for name in ("text", "doors", "marks", "classes", "order"):
            self.assertIsInstance(vars(Library)[name], property)
        self.assertIsInstance(vars(Library)["read"], classmethod)
        self.assertIsInstance(vars(Library)["is_name"], staticmethod)

    def test_the_library_is_that_of_the_last_class(self):
        library = Library.read("door a one open\nclass A\n  a: raw\nclass B(A)\n  a: drop\nclass C")
        self.assertEqual((library.order, len(library)), (["C"], 1))
        self.assertEqual(library.classes, ["A", "B", "C"])
        self.assertEqual(library.dispatch("a"), (1, [0, 1]))

    def test_bases(self):
        library = Library.read(DIAMOND)
        self.assertEqual(library.bases("D"), ["B", "C"])
        self.assertEqual(library.bases(name="B"), ["A"])
        self.assertEqual(library.bases("Other"), [])

    def test_bodies(self):
        library = Library.read(DIAMOND)
        self.assertEqual(library.bodies("C"), [("update", "each self.set"), ("set", "super.set")])
        self.assertEqual(library.bodies(name="Other"), [("none", "all raw")])
        self.assertEqual(library.bodies("D"), [])
        self.assertEqual(Library.read(TEXT).bodies("Base"), [
            ("set", "if text then self.check, raw | raw"), ("check", "drop")])

    def test_no_class(self):
        library = Library.read(DIAMOND)
        for name in ("E", "", "a", "set", "ground"):
            self.assert_raises_door(("NoClass", {"name": name}), library.bases, name)
            self.assert_raises_door(("NoClass", {"name": name}), library.bodies, name)

    def test_dispatch_at_every_position(self):
        library = Library.read(DIAMOND)
        homes = {"set": [2, 2, 2, 3, 4], "update": [1, 1, 2, 4, 4], "none": [4] * 5}
        for door, row in homes.items():
            for start, home in enumerate(row):
                places = list(range(start, home + 1))
                self.assertEqual(library.dispatch(door, start), (home, places))
                self.assertEqual(library.dispatch(start=start, door=door), (home, places))
            self.assertEqual(library.dispatch(door), library.dispatch(door, 0))
        self.assertIsInstance(library.dispatch("set"), tuple)

    def test_no_door_and_no_place(self):
        library = Library.read(DIAMOND)
        for place in (-1, 5, 10 ** 39, -10 ** 39):
            wanted = ("NoPlace", {"place": place})
            self.assert_raises_door(wanted, library.dispatch, "set", place)
            wanted = ("NoDoor", {"door": "put"})
            self.assert_raises_door(wanted, library.dispatch, "put", place)
        for door in ("", "text", "Box", "raw"):
            self.assert_raises_door(("NoDoor", {"door": door}), library.dispatch, door)

    def test_equal(self):
        library = Library.read(TEXT)
        self.assertTrue(library == Library.read("" + TEXT))
        self.assertFalse(library != Library.read(TEXT))
        other = Library.read(TEXT.replace("drop", "raw"))
        self.assertFalse(library == other)
        self.assertTrue(library != other)

    def test_unequal_texts_of_the_same_container(self):
        first = Library.read("door a one open\nclass Box\n  a: raw")
        second = Library.read("door a one open\nclass Bag\n  a: raw")
        self.assertFalse(first == second)

    def test_unequal_to_other_values(self):
        class Twin:
            def __init__(self, library):
                self.__dict__.update(vars(library))

            def __eq__(self, other):
                return True

        library = Library.read(TEXT)
        for other in (TEXT, None, 1, ["Box", "Base"], Twin(library)):
            self.assertFalse(library == other)
            self.assertTrue(library != other)

    def test_len_iteration_and_str(self):
        for text, order in ((TEXT, ["Box", "Base"]), (DIAMOND, ["D", "B", "C", "A"])):
            library = Library.read(text)
            self.assertEqual(len(library), len(order))
            self.assertEqual(list(library), order)
            self.assertEqual([name for name in library], order)
            self.assertEqual(str(library), text)

    def test_returned_lists_are_new(self):
        library = Library.read(DIAMOND)
        readings = [
            lambda: library.doors, lambda: library.marks, lambda: library.classes,
            lambda: library.order, lambda: library.bases("D"), lambda: library.bodies("C"),
            lambda: library.dispatch("set")[1],
        ]
        before = [list(reading()) for reading in readings]
        for reading in readings:
            found = reading()
            found.reverse()
            found.append("set")
            found[0] = ("set", "update", 7)
        self.assertEqual([reading() for reading in readings], before)
        self.assertEqual((list(library), len(library), str(library)), (before[3], 4, DIAMOND))
        self.assertEqual(library.dispatch("set"), (2, [0, 1, 2]))

    def test_errors_change_nothing(self):
        library = Library.read(DIAMOND)
        self.raised(library.dispatch, "set", 9)
        self.raised(library.bodies, "E")
        self.assertEqual(library.classes, ["Other", "A", "B", "C", "D"])
        self.assertEqual(library.doors[0], ("set", "one", "open"))


if __name__ == "__main__":
    unittest.main()
