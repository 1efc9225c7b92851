"""What stays of a refused batch (points 38 to 40)."""

import random
import unittest

from everydoor.boxes import Box
from everydoor.cases import Case
from everydoor.errors import Refused
from everydoor.goals import broken
from everydoor.heirs import Heir
from everydoor.library import Library
from everydoor.midway import stays, torn
from everydoor.study import Study
from everydoor.traces import visits
from helper import (
    FORTY, TEXT, DoorTest, all_places, all_sets, case_of, some_cases, study_of, write_studies)

NESTED = (
    "door u many open", "door v many open", "door m many make", "door a one inner",
    "door b one inner", "mark x", "class Base", "  u: each self.a ; all self.v",
    "  v: if own then all raw ; each self.b else each if held then raw | drop",
    "  m: each raw ; each self.a", "class Box(Base)", "  a: if x then raw, self.b | self.b, raw",
    "  b: drop",
)


class StaysTest(DoorTest):
    def check(self, words, doors, wanted, place=0):
        self.assertEqual(stays(study_of(*NESTED), case_of(words), place, doors), wanted)

    def test_example(self):
        study = Study(Library.read(TEXT))
        case, number = torn(study, 0, ["set"])
        self.assertEqual(
            [str(case), number, stays(study, case, 0, ["set"]), torn(study, 0, ["update"])],
            ["update 0 0", 1, [(), (0,)], None])

    def test_visits_of_several_items(self):
        self.check("u 0 0 0", ["u"], [()])
        self.check("u 0 0 0", ["v"], [(0, 1, 2)])
        self.check("u own 0 0 0", ["u", "v"], [(), (0, 1, 2)])
        self.check("v own 0 0 0", ["b", "v"], [(), (0, 1, 2), (0, 1, 2), (0, 1, 2)])
        self.check("v 0 0 0", ["b", "v"], [()])

    def test_items_one_after_another(self):
        self.check("u 0 0 0", ["a"], [(), (0,), (0, 1)])
        self.check("u 0 1 0", ["b"], [(), (0, 1), (0, 1)])
        self.check("u 1 0", ["a", "b"], [(), (0,), (0,), (0,)])

    def test_items_that_are_put_several_times(self):
        # v puts all items once more, and again each of them counts once, in the order of before.
        self.check("u own 0 0", ["b"], [(), (0,), (0, 1), (0, 1)])
        study = study_of("door u many open", "door a one inner", "door b one inner", "mark x",
                         "class Box", "  u: each if x then raw | drop ; all raw ; each self.a",
                         "  a: raw, raw")
        self.assertEqual(
            stays(study, case_of("u 0 1 0 1"), 0, ["a"]), [(1, 3, 0, 2)] * 4)
        self.assertEqual(stays(study, case_of("u own 0 1"), 0, ["a", "u"]), [(), (1, 0), (1, 0)])

    def test_held_items_count_when_they_are_put(self):
        self.check("v 0h 0 0h", ["v"], [()])
        self.check("u 0h 0 0h", ["a", "v"], [(), (0,), (0, 1), (0, 1, 2)])
        study = study_of("door u many open", "door a one inner", "class Box",
                         "  u: each if held then raw | drop ; each self.a")
        self.assertEqual(stays(study, case_of("u 0 0"), 0, ["a"]), [(), (0,)])
        self.assertEqual(stays(study, case_of("u 0 0h 0h"), 0, ["a"]), [(1, 2), (1, 2, 0), (1, 2, 0)])

    def test_a_maker(self):
        self.check("m 0 0", ["a"], [(0, 1), (0, 1)])
        self.check("m own 0 0", ["m"], [()])

    def test_no_visit(self):
        self.check("u 0 0", [], [])
        self.check("u 0 0", ["m"], [])
        self.check("u 0 0", ["u"], [], place=2)

    def test_eight_items(self):
        self.check("u 0 0 0 0 0 0 0 0", ["a"], [tuple(range(size)) for size in range(8)])

    def test_places(self):
        # u and v go 0-1, a and b go 0-0.
        self.check("u 0 0", ["u", "v", "a", "b"], [(), (0, 1)], place=1)
        self.check("u 0 0", ["a"], [], place=1)

    def test_order_and_duplicates_of_doors(self):
        for doors in (["b", "u", "b"], ("u", "b"), ["b", "u"]):
            self.check("u 0 0", doors, [(), (), (0,)])
        study, doors = study_of(*NESTED), ["b", "u", "b"]
        found = stays(doors=doors, place=0, case=case_of("u 0 0"), study=study)
        self.assertEqual(doors, ["b", "u", "b"])
        found.clear()
        self.assertEqual(len(stays(study, case_of("u 0 0"), 0, doors)), 3)

    def test_errors(self):
        study = study_of(*NESTED)
        errors = [
            ("none 0", ("NoDoor", {"door": "none"})),
            ("b 0", ("NotOpen", {"door": "b"})),
            ("u 0 2 9", ("BadMarks", {"number": 2})),
            ("m 0h", ("Impossible", {"case": case_of("m 0h")})),
        ]
        for words, wanted in errors:
            for place in (0, -1, 3):
                for doors in (["a"], ["none"], []):
                    self.assert_raises_door(wanted, stays, study, case_of(words), place, doors)
        for place in (-1, 3, FORTY, -FORTY):
            for doors in (["a"], ["other"]):
                wanted = ("NoPlace", {"place": place})
                self.assert_raises_door(wanted, stays, study, case_of("u 0"), place, doors)
        for doors in (["other"], ["a", "other", "none"], ["other", "other"]):
            wanted = ("NoDoor", {"door": "other"})
            self.assert_raises_door(wanted, stays, study, case_of("u 0"), 2, doors)
        one = study_of("door a one open", "class Box", "  a: drop")
        for words in ("a own 0", "a 0 0"):
            wanted = ("BadBatch", {"door": "a"})
            self.assert_raises_door(wanted, stays, one, case_of(words), 9, ["none"])
        wanted = ("Impossible", {"case": case_of("a 0h")})
        self.assert_raises_door(wanted, stays, one, case_of("a 0h"), 9, ["none"])

    def test_drawn_libraries(self):
        some = 0
        for seed, study in enumerate(write_studies(71, 60)):
            for case in some_cases(study, seed):
                trace = study.trace(case)
                for place in all_places(study):
                    for doors in all_sets(study)[1::9]:
                        wanted = []
                        for index in visits(trace, place, doors):
                            items = []
                            for row in trace[:index]:
                                if row[0] == "put" and row[4] not in items:
                                    items.append(row[4])
                            wanted.append(tuple(items))
                        self.assertEqual(stays(study, case, place, doors), wanted)
                        some += any(items != tuple(sorted(items)) for items in wanted)
        self.assertGreater(some, 20)

    def test_what_refusals_leave(self):
        """An heir that refuses at one of its visits, at the first or the last item of it."""
        some = 0
        for seed, study in enumerate(write_studies(72, 30)):
            for case in some_cases(study, seed, (1, 2, 4)):
                if (case.door, "many", "make") in study.library.doors:
                    continue
                place = seed % (len(study.library) + 1)
                doors = all_sets(study)[-1 - seed % 5]
                seen = [row for index, row in enumerate(study.trace(case))
                        if index in visits(study.trace(case), place, doors)]
                asked = 0
                for row, items in zip(seen, stays(study, case, place, doors)):
                    for number in (asked, asked + len(row[6]) - 1):
                        self.assertEqual(self.refuse(study, case, place, doors, number), items)
                        some += len(items) > 0
                    asked += len(row[6])
        self.assertGreater(some, 100)

    def refuse(self, study, case, place, doors, number):
        """Return the items that are changed if the question with this number is refused."""
        asked = []

        def rule(door, key, value):
            asked.append(key)
            return value if len(asked) <= number else None

        heir = Heir(study, rule, place=place)
        held = [at for at, (_, held) in enumerate(case.states) if held]
        box = Box.holding(heir, *[(key, -1) for key in held])
        heir.replaced = doors
        with self.assertRaises(Refused):
            box.put(case.door, *[(at, marks, 7) for at, (marks, _) in enumerate(case.states)],
                    own=case.own)
        # The order of the store is that of the rows put, but held items stay in front.
        new = [key for key, marks, value in box.contents if value == 7]
        puts = [row[4] for row in box.rows if row[0] == "put"]
        self.assertEqual(set(new), set(puts))
        return tuple(sorted(new, key=puts.index))


class TornTest(DoorTest):
    def test_the_library_of_the_document(self):
        study = Study(Library.read(TEXT))
        case, number = torn(study, 0, ["check", "set"])
        self.assertEqual((str(case), number), ("update 0 0", 1))
        case, number = torn(study, 0, ["check"])
        self.assertEqual((str(case), number), ("update 0 1", 0))
        for doors in ([], ["update"]):
            self.assertIsNone(torn(study, 0, doors))
        self.assertIsInstance(torn(study, 0, ["set"]), tuple)

    def test_one_item(self):
        study = study_of("door a one open", "door b one inner", "door c one inner", "class Box",
                         "  a: self.c, raw, self.b", "  b: drop", "  c: self.b, self.b")
        case, number = torn(study, 0, ["b"])
        self.assertEqual((str(case), number), ("a 0", 2))
        case, number = torn(study, 0, ["a", "b"])
        self.assertEqual((str(case), number), ("a 0", 3))
        self.assertIsNone(torn(study, 0, ["a", "c"]))
        self.assertIsNone(torn(study, 1, ["a", "b"]))

    def test_makers_are_never_torn(self):
        study = study_of("door m many make", "door a one inner", "class Box", "  m: all raw ; each self.a")
        self.assertIsNone(torn(study, 0, ["a", "m"]))
        self.assertEqual(stays(study, case_of("m 0 0"), 0, ["a"]), [(0, 1), (0, 1)])

    def test_errors(self):
        study = Study(Library.read(TEXT))
        for place in (-1, 3, FORTY, -FORTY):
            for doors in ([], ["set"], ["none"]):
                self.assert_raises_door(("NoPlace", {"place": place}), torn, study, place, doors)
        for doors in (["none"], ["set", "none", "other"], ["none", "other"]):
            self.assert_raises_door(("NoDoor", {"door": "none"}), torn, study, 0, doors)
        self.assertIsNone(torn(study=study, doors=[], place=2))

    def test_beside_broken(self):
        some = {0: 0, 1: 0, 2: 0}
        for study in write_studies(73, 40):
            for place in all_places(study):
                for doors in all_sets(study)[::4]:
                    case = broken(study, place, doors, "whole")
                    found = torn(study, place, doors)
                    if case is None:
                        self.assertIsNone(found)
                        some[0] += 1
                        continue
                    self.assertEqual(found[0], case)
                    trace = study.trace(case)
                    first = [row[0] for row in trace].index("put")
                    behind = [index > first for index in visits(trace, place, doors)]
                    self.assertEqual(found[1], behind.index(True))
                    some[len(case)] += 1
        self.assertGreater(min(some.values()), 20)


class CallTest(unittest.TestCase):
    def test_refusing_at_what_torn_says_changes_the_contents(self):
        pick, some = random.Random(7), 0
        for study in write_studies(74, 40):
            place, doors = pick.choice(all_places(study)), pick.choice(all_sets(study))
            found = torn(study, place, doors)
            if found is None:
                continue
            case, number = found
            rows = [row for index, row in enumerate(study.trace(case))
                    if index in visits(study.trace(case), place, doors)]
            asked = sum(len(row[6]) for row in rows[:number])
            answers = [True] * asked + [False]

            def rule(door, key, value):
                return value if answers.pop(0) else None

            heir = Heir(study, rule, place=place)
            held = [(at, -1) for at, (_, held) in enumerate(case.states) if held]
            box = Box.holding(heir, *held)
            before = box.contents
            heir.replaced = doors
            with self.assertRaises(Refused):
                box.put(case.door, *[(at, marks, 7) for at, (marks, _) in enumerate(case.states)],
                        own=case.own)
            self.assertNotEqual(box.contents, before)
            some += 1
        self.assertGreater(some, 10)

    def test_a_case_is_not_changed(self):
        study = study_of(*NESTED)
        case = Case("u", [(0, False), (1, True)], True)
        stays(study, case, 0, ["a"])
        self.assertEqual(str(case), "u own 0 1h")


if __name__ == "__main__":
    unittest.main()
