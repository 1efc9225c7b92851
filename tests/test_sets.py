"""Good sets, least sets, best places, and calls that bar sets (points 34 to 36)."""

import random
import unittest

from everydoor.goals import broken
from everydoor.library import Library
from everydoor.sets import barring, best_places, good_sets, least_sets
from everydoor.study import Study
from helper import (
    FORTY, GOALS, TEXT, DoorTest, KeptTraces, all_places, all_sets, plain_breaks, plain_goal,
    study_of, write_studies)

SIX = [f"door {name} one open" for name in "abcdef"] + ["class Box"]


def plain_good(study, place, goals):
    kept = KeptTraces(study)
    return [doors for doors in all_sets(study) if not plain_breaks(kept, place, doors, goals)]


def some_goals(pick):
    """Return rows of goals of every length, with doubled ones."""
    return [[pick.choice(GOALS)], pick.sample(GOALS, 2), [*GOALS, "noted"]]


class GoodTest(DoorTest):
    def setUp(self):
        self.study = Study(Library.read(TEXT))

    def test_example(self):
        first, second, third = barring(self.study, 0, "changed")
        self.assertEqual(
            [least_sets(self.study, 0, "checked"), best_places(self.study, "checked"), str(first),
             str(second), str(third)],
            [[("set", "update")], [2, None, None], "set 0", "update 0", "update own 0"])

    def test_the_library_of_the_document(self):
        study = self.study
        both = ("set", "update")
        self.assertEqual(good_sets(study, 0, "checked"), [both, ("set", "update", "check")])
        self.assertEqual(good_sets(study, 0, "changed"), [])
        self.assertEqual(good_sets(study, 0, "noted"), [])
        self.assertEqual(good_sets(study, 0, "whole"), [(), ("update",)])
        self.assertEqual(good_sets(study, 0, "whole", "checked"), [])
        self.assertEqual(good_sets(study, 1, "checked"), [])
        self.assertEqual(least_sets(study, 0, "whole"), [()])
        self.assertEqual(least_sets(study, 0, "changed"), [])

    def test_order_of_six_doors(self):
        study = study_of(*SIX)
        found = good_sets(study, 0)
        self.assertEqual(found, all_sets(study))
        self.assertEqual(len(found), 64)
        self.assertEqual(found[:8], [(), ("a",), ("b",), ("c",), ("d",), ("e",), ("f",), ("a", "b")])
        self.assertEqual(["".join(doors) for doors in found[22:32]], [
            "abc", "abd", "abe", "abf", "acd", "ace", "acf", "ade", "adf", "aef"])
        self.assertEqual(found[-2:], [("b", "c", "d", "e", "f"), ("a", "b", "c", "d", "e", "f")])

    def test_order_is_that_of_declaration(self):
        study = study_of("door z one open", "door a one inner", "door k one inner", "class Box")
        self.assertEqual(good_sets(study, 0, "noted"), [
            ("z",), ("z", "a"), ("z", "k"), ("z", "a", "k")])
        self.assertEqual(good_sets(study, 0), [
            (), ("z",), ("a",), ("k",), ("z", "a"), ("z", "k"), ("a", "k"), ("z", "a", "k")])
        self.assertTrue(all(isinstance(doors, tuple) for doors in good_sets(study, 0)))

    def test_several_least_sets(self):
        study = study_of("door a one open", "door b one inner", "door c one inner", "class Box",
                         "  a: self.b", "  b: self.c")
        self.assertEqual(least_sets(study, 0, "changed"), [("a",), ("b",), ("c",)])
        self.assertEqual(least_sets(study, 0, *GOALS), [("a",), ("b",), ("c",)])
        self.assertEqual(good_sets(study, 0, "changed"), [("a",), ("b",), ("c",)])
        self.assertEqual(least_sets(study, 0, "checked", "whole"), [("a",), ("b",), ("c",)])
        self.assertEqual(least_sets(study, 1, *GOALS), [("c",)])

    def test_six_doors_are_needed(self):
        study = study_of(*SIX)
        every = ("a", "b", "c", "d", "e", "f")
        for goal in ("checked", "changed", "noted"):
            for place in (0, 1):
                self.assertEqual(good_sets(study, place, goal), [every])
            self.assertEqual(best_places(study, goal), [6, 6])

    def test_no_goals(self):
        for study in [self.study, study_of(*SIX), study_of("door a one inner", "class Box")]:
            for place in all_places(study):
                self.assertEqual(good_sets(study, place), all_sets(study))
                self.assertEqual(least_sets(study, place), [()])
                self.assertEqual(barring(study, place), [])
            self.assertEqual(best_places(study), [0] * (len(study.library) + 1))

    def test_nothing_possible(self):
        study = study_of("door a one inner", "door u many inner", "class Box", "  u: each self.a")
        self.assertEqual(good_sets(study, 0, *GOALS), [(), ("a",), ("u",), ("a", "u")])
        self.assertEqual(least_sets(study, 1, *GOALS), [()])
        self.assertEqual(barring(study, 0, *GOALS), [])
        self.assertEqual(best_places(study, *GOALS), [0, 0])

    def test_new_lists(self):
        study = self.study
        wanted = [good_sets(study, 0, "checked"), least_sets(study, 0, "checked"),
                  best_places(study, "checked"), barring(study, 0, "checked")]
        for action in (good_sets, least_sets, barring):
            action(study, 0, "checked").clear()
        best_places(study, "checked").clear()
        self.assertEqual(wanted, [
            good_sets(study, 0, "checked"), least_sets(study, 0, "checked"),
            best_places(study, "checked"), barring(study, 0, "checked")])

    def test_names_of_arguments(self):
        self.assertEqual(good_sets(place=1, study=self.study), all_sets(self.study))
        self.assertEqual(least_sets(place=1, study=self.study), [()])
        self.assertEqual(best_places(study=self.study), [0, 0, 0])
        self.assertEqual(barring(place=1, study=self.study), [])

    def test_errors(self):
        for action in (good_sets, least_sets, barring):
            for place in (-1, 3, FORTY, -FORTY):
                for goals in ((), ("whole",), ("none",)):
                    wanted = ("NoPlace", {"place": place})
                    self.assert_raises_door(wanted, action, self.study, place, *goals)
            for goals in (("none",), ("checked", "none", "other"), ("none", "other", "whole")):
                wanted = ("BadGoal", {"goal": "none"})
                self.assert_raises_door(wanted, action, self.study, 2, *goals)
        for goal in ("", "Checked", "whole ", "checked,whole", "set", "none" * 99):
            self.assert_raises_door(("BadGoal", {"goal": goal}), best_places, self.study, goal)
            self.assert_raises_door(
                ("BadGoal", {"goal": goal}), best_places, self.study, "whole", goal, "none")

    def test_drawn_libraries(self):
        empty, full, sizes = 0, 0, set()
        for seed, study in enumerate(write_studies(61, 30)):
            pick = random.Random(seed)
            place = pick.choice(all_places(study))
            for goals in some_goals(pick):
                good = plain_good(study, place, goals)
                self.assertEqual(good_sets(study, place, *goals), good)
                least = [doors for doors in good if len(doors) == min(map(len, good))]
                self.assertEqual(least_sets(study, place, *goals), least)
                empty += good == []
                full += len(good) > 1
                sizes.update(len(doors) for doors in least)
        self.assertGreater(min(empty, full, len(sizes)), 2)

    def test_good_sets_break_nothing(self):
        for seed, study in enumerate(write_studies(62, 25)):
            pick = random.Random(seed)
            for place in all_places(study):
                for goals in some_goals(pick):
                    good = good_sets(study, place, *goals)
                    for doors in pick.sample(all_sets(study), 3):
                        self.assertEqual(broken(study, place, doors, *goals) is None, doors in good)

    def test_best_places_of_drawn_libraries(self):
        some = []
        for seed, study in enumerate(write_studies(63, 30)):
            pick = random.Random(seed)
            for goals in some_goals(pick):
                wanted = []
                for place in all_places(study):
                    least = least_sets(study, place, *goals)
                    wanted.append(len(least[0]) if least else None)
                self.assertEqual(best_places(study, *goals), wanted)
                some.append(repr(wanted))
        self.assertGreater(len(set(some)), 10)


class PlacesTest(unittest.TestCase):
    def test_every_place(self):
        study = study_of("door a one open", "door b one inner", "class Base", "  b: super.b",
                         "class Mid(Base)", "  a: self.b", "class Box(Mid)", "  a: super.a")
        # a goes 0-0 and 1-1, b goes 0-2 and 3-3.
        self.assertEqual(best_places(study, "checked"), [1, 1, 1, 1])
        self.assertEqual(
            [least_sets(study, place, "noted") for place in range(4)],
            [[("a",), ("b",)], [("a",), ("b",)], [("b",)], [("b",)]])
        study = Study(Library.read(TEXT))
        self.assertEqual(best_places(study, "changed"), [None, None, None])
        for place in all_places(study):
            self.assertEqual(least_sets(study, place, "whole", "noted"), [])
        study = study_of("door a one open", "door b one open", "class Base", "  b: raw",
                         "class Box(Base)", "  a: super.b")
        self.assertEqual(best_places(study, "changed"), [2, 1, None])
        self.assertEqual(best_places(study, "whole"), [0, 0, 0])
        self.assertEqual(best_places(study, "whole", "changed", "whole"), [2, 1, None])


class BarringTest(DoorTest):
    def find_barred(self, study, place, goals):
        """Return the cases that point 36 begins with, and the sets that each of them bars."""
        kept, rows = KeptTraces(study), list(study.cases(1))
        if "whole" in goals:
            rows += study.cases(2)
        barred = []
        for case in rows:
            spoken = [goal for goal in goals if len(case) == 1 or goal == "whole"]
            barred.append({doors for doors in all_sets(study) if not all(
                plain_goal(kept, case, place, doors, goal) for goal in spoken)})
        return rows, barred

    def sets_to_bar(self, study, barred):
        good = [doors for doors in all_sets(study) if not any(doors in row for row in barred)]
        return [doors for doors in all_sets(study) if not good or len(doors) < len(good[0])]

    def bars(self, barred, sets):
        return all(any(doors in row for row in barred) for doors in sets)

    def plain(self, study, place, goals):
        """Return the list as point 36 makes it, and the sets that it bars."""
        rows, barred = self.find_barred(study, place, goals)
        sets = self.sets_to_bar(study, barred)
        for at in reversed(range(len(rows))):
            if self.bars(barred[:at] + barred[at + 1:], sets):
                del rows[at], barred[at]
        return rows, sets

    def test_against_plain_search(self):
        some = {"none": 0, "long": 0, "least": 0}
        for seed, study in enumerate(write_studies(64, 40)):
            pick = random.Random(seed)
            place = pick.choice([0, 0, *all_places(study)])
            for goals in some_goals(pick):
                rows, sets = self.plain(study, place, goals)
                found = barring(study, place, *goals)
                self.assertEqual([str(case) for case in found], [str(case) for case in rows])
                self.assertEqual(found, rows)
                some["none"] += not rows
                some["long"] += len(rows) > 2
                some["least"] += 0 < len(sets) < len(all_sets(study))
        self.assertGreater(min(some.values()), 2, some)

    def test_two_items_against_plain_search(self):
        some = 0
        for study in write_studies(64, 80):
            for place in all_places(study):
                for goals in (("whole", "noted"), ("checked", "whole")):
                    found = barring(study, place, *goals)
                    if any(len(case) == 2 for case in found):
                        self.assertEqual(found, self.plain(study, place, goals)[0])
                        some += 1
        self.assertGreater(some, 5)

    def test_no_case_can_be_left_out(self):
        for seed, study in enumerate(write_studies(65, 12)):
            pick = random.Random(seed)
            place = pick.choice(all_places(study))
            for goals in some_goals(pick):
                rows, barred = self.find_barred(study, place, goals)
                sets = self.sets_to_bar(study, barred)
                found = [barred[rows.index(case)] for case in barring(study, place, *goals)]
                self.assertTrue(self.bars(found, sets))
                for at in range(len(found)):
                    self.assertFalse(self.bars(found[:at] + found[at + 1:], sets))

    def test_gone_through_backwards(self):
        # All cases bar the empty set, so only the first one stays.
        study = study_of("door a many open", "mark x", "class Box")
        self.assertEqual([str(case) for case in barring(study, 0, "checked")], ["a 0"])
        study = study_of("door a one open", "door b one open", "class Box", "  a: self.b")
        self.assertEqual(least_sets(study, 0, "checked"), [("b",)])
        self.assertEqual([str(case) for case in barring(study, 0, "checked")], ["a 0"])
        study = study_of("door a one open", "door b one open", "class Box")
        self.assertEqual([str(case) for case in barring(study, 0, "checked")], ["a 0", "b 0"])

    def test_whole(self):
        study = study_of("door u many open", "door a one inner", "class Box",
                         "  u: if own then all raw else each self.a")
        self.assertEqual(barring(study, 0, "whole"), [])
        self.assertEqual(least_sets(study, 0, "changed", "whole"), [("u",)])
        study = study_of("door u many open", "door a one inner", "door b one inner", "class Box",
                         "  u: each self.a", "  a: if held then self.b, raw | raw", "  b: drop")
        self.assertEqual(good_sets(study, 0, "checked"), [
            ("u",), ("a",), ("u", "a"), ("u", "b"), ("a", "b"), ("u", "a", "b")])
        self.assertEqual(least_sets(study, 0, "checked", "whole"), [("u",)])
        self.assertEqual([str(case) for case in barring(study, 0, "whole", "checked")], ["u 0"])

    def test_two_items_are_needed(self):
        study = study_of("door u many open", "door v many open", "door a one inner", "class Box",
                         "  u: each self.a", "  v: if own then each self.a else all raw")
        self.assertEqual(good_sets(study, 0, "checked", "whole"), [("u", "v")])
        self.assertEqual(good_sets(study, 0, "checked"), [
            ("u", "v"), ("v", "a"), ("u", "v", "a")])
        self.assertEqual(
            [str(case) for case in barring(study, 0, "checked", "whole")], ["u 0", "v 0"])
        study = study_of("door u many open", "door a one inner", "class Box", "  u: each self.a")
        self.assertEqual(good_sets(study, 0, "whole"), [(), ("u",)])
        self.assertEqual(least_sets(study, 0, "whole", "noted"), [("u",)])
        self.assertEqual([str(case) for case in barring(study, 0, "whole", "noted")], ["u 0"])
        study = study_of("door u many open", "door a one inner", "class Box",
                         "  u: if own then each self.a else all raw")
        # Only two items tell that a visit of each item alone comes too late for u own.
        self.assertEqual(good_sets(study, 0, "whole"), [(), ("u",)])

    def test_two_items_stay_in_the_list(self):
        study = study_of("door u many open", "door v many open", "door a one inner", "class Box",
                         "  u: each self.a", "  v: each self.a")
        self.assertEqual(good_sets(study, 0, "noted"), [("a",), ("u", "v")])
        self.assertEqual(least_sets(study, 0, "noted", "whole"), [("u", "v")])
        self.assertEqual(
            [str(case) for case in barring(study, 0, "noted", "whole")], ["u 0", "v 0", "u 0 0"])

    def test_no_good_sets(self):
        study = study_of("door u many open", "door a one inner", "mark x", "class Box",
                         "  u: each if x then raw | self.a ; each self.a", "  a: drop")
        self.assertEqual(good_sets(study, 0, *GOALS), [])
        rows, sets = self.plain(study, 0, GOALS)
        self.assertEqual(sets, all_sets(study))
        self.assertEqual(barring(study, 0, *GOALS), rows)


if __name__ == "__main__":
    unittest.main()
