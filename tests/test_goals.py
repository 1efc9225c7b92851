"""Goals, what breaks them, and how often items are visited (points 29 to 33 and 37)."""

import random
import unittest

from everydoor.goals import broken, leaks, passes, sheet
from everydoor.library import Library
from everydoor.study import Study
from everydoor.traces import visits
from helper import (
    FORTY, GOALS, TEXT, DoorTest, KeptTraces, all_places, all_sets, plain_breaks, study_of, told,
    write_studies)

ONES = ("door a one open", "door b one inner", "door c one inner", "class Box")
MANYS = ("door u many open", "door m many make", "door a one inner", "door b one inner", "class Box")


def words_of(case):
    return None if case is None else str(case)


class HoldTest(unittest.TestCase):
    def check(self, lines, place, **wanted):
        """Each set of doors, written as one word, has the first letters of the goals that hold."""
        study = study_of(*lines)
        letters = {"k": "checked", "g": "changed", "n": "noted", "w": "whole"}
        for doors, goals in wanted.items():
            chosen = list(doors.strip("_"))
            for letter, goal in letters.items():
                with self.subTest(lines=lines, place=place, doors=doors, goal=goal):
                    found = broken(study, place, chosen, goal)
                    self.assertEqual(found is None, letter in goals, words_of(found))

    def test_no_put(self):
        self.check([*ONES, "  a: drop"], 0, _="kgnw", a="kgw", b="kgnw", abc="kgw")
        self.check([*ONES, "  a: self.b, self.c", "  b: drop", "  c: drop"], 0,
                   _="kgnw", a="kgw", b="kgw", bc="kgw", abc="kgw")

    def test_one_put(self):
        self.check([*ONES], 0, _="w", a="kgnw", b="w", ab="kgnw")
        self.check([*ONES, "  a: self.b", "  b: super.b"], 0,
                   _="w", a="kgnw", b="kgnw", ab="kw", c="w", abc="kw")

    def test_a_visit_in_front(self):
        self.check([*ONES, "  a: self.b, raw", "  b: drop"], 0,
                   _="w", a="kgnw", b="knw", ab="kgw")
        self.check([*ONES, "  a: self.b, self.b, raw", "  b: drop"], 0, a="kgnw", b="kw", ab="kgw")

    def test_a_visit_in_front_at_another_level(self):
        lines = [*ONES, "  a: self.b, raw", "  b: self.c", "  c: drop"]
        self.check(lines, 0, c="knw", bc="kw", b="knw")
        lines = [*ONES, "  a: self.b, self.c", "  b: drop"]
        self.check(lines, 0, b="knw", c="gknw", bc="gkw", ab="gkw")

    def test_a_visit_behind_the_last_put(self):
        self.check([*ONES, "  a: raw, self.b", "  b: drop"], 0,
                   _="w", a="kgnw", b="n", ab="kg", c="w")

    def test_several_puts(self):
        self.check([*ONES, "  a: self.b, raw"], 0, _="w", a="kgnw", b="knw", ab="kw")
        self.check([*ONES, "  a: raw, self.b"], 0, _="w", a="kgnw", b="n", ab="k")
        self.check([*ONES, "  a: self.b, self.c"], 0,
                   a="kgnw", b="knw", c="n", bc="kg", ab="kw", ac="k", abc="k")
        self.check([*ONES, "  a: raw, self.b, raw", "  b: drop"], 0, a="kgnw", b="n", ab="kg")
        self.check([*ONES, "  a: self.b, self.b"], 0, a="kgnw", b="kg", ab="k")

    def test_a_visit_around_a_visit(self):
        lines = [*ONES, "  a: self.b, raw", "  b: self.c, raw", "  c: raw"]
        self.check(lines, 0, a="kgnw", b="knw", c="knw", ab="kw", bc="kw", abc="kw")

    def test_own_and_not_own_and_marks_and_held(self):
        lines = ["door u many open", "door a one inner", "mark x", "class Box"]
        self.check([*lines, "  u: if own then all raw else each self.a"], 0, u="kgnw", a="")
        self.check([*lines, "  u: each if x then self.a | raw"], 0, u="kgnw", a="")
        self.check([*lines, "  u: each if held then self.a | raw"], 0, u="kgnw", a="")
        self.check([*lines, "  u: each if held then drop | self.a"], 0, u="kgw", a="kgn")

    def test_places(self):
        lines = ["door a one open", "door b one inner", "class Base", "  a: self.b, super.a",
                 "class Box(Base)", "  a: super.a", "  b: drop"]
        # a goes 0-0, 1-1 and 2-2, b goes 0-0.
        self.check(lines, 0, _="w", a="kgnw", b="knw", ab="kgw")
        for place in (1, 2):
            self.check(lines, place, _="w", a="kgnw", b="w", ab="kgnw")
        lines[3] = "  a: self.b, raw"
        self.check(lines, 2, _="w", a="w", b="w", ab="w")
        lines[3] = "  a: raw, super.a"
        self.check(lines, 0, a="kgnw")
        self.check(lines, 1, a="kgnw")
        self.check(lines, 2, a="n")

    def test_whole_in_makers(self):
        body = "all raw ; each self.a"
        self.check([*MANYS, f"  m: {body}", "  u: all drop"], 0, a="nw", m="kgnw", ma="kw", u="w")
        self.check([*MANYS, f"  u: {body}", "  m: all drop"], 0, a="n", ua="k", u="kgnw")
        self.check([*MANYS, f"  m: {body}", f"  u: {body}"], 0, a="n", um="kgnw", uma="k")

    def test_whole_of_two_items(self):
        lines = [*MANYS, "  u: each self.a", "  m: all drop"]
        study = study_of(*lines)
        self.check(lines, 0, a="kgn", u="kgnw", ua="k", m="w")
        self.assertEqual(str(broken(study, 0, ["a"], "whole")), "u 0 0")
        self.check([*MANYS, "  m: each self.a", "  u: all drop"], 0, a="kgnw", m="kgnw", u="w")
        # Here an item that is put is followed by a visit of another one only if it has the mark.
        study = study_of("door u many open", "door a one inner", "mark x", "class Box",
                         "  u: each if x then raw | self.a ; each drop", "  a: drop")
        self.assertEqual(str(broken(study, 0, ["a"], "whole")), "u 1 0")
        self.assertIsNone(broken(study, 0, ["u"], "whole"))

    def test_whole_says_nothing_of_another_box(self):
        # The put of the ground stands in front of a visit only if held items are brought in.
        study = study_of("door a one open", "door b one inner", "class Box",
                         "  a: if held then raw, self.b | raw", "  b: drop")
        self.assertEqual(str(broken(study, 0, ["b"], "whole")), "a 0h")


class BrokenTest(DoorTest):
    def setUp(self):
        self.study = Study(Library.read(TEXT))

    def test_example(self):
        self.assertEqual(
            [str(broken(self.study, 0, ["set"], "checked")), leaks(self.study, 0, ["set"]),
             sheet(self.study, 0, ["set"]).split("\n")[2]],
            ["update own 0", [(0, "update")], "update   many      0     4     4     0"])

    def test_the_first_case_of_several_goals(self):
        study = study_of("door u many open", "door a one open", "door b one inner", "mark x",
                         "class Box", "  u: if own then all raw else each self.a",
                         "  a: if x then raw, self.b | self.b, raw", "  b: drop")
        first = {"checked": "u 1", "changed": "u 0", "noted": "u own 0", "whole": "u 1"}
        for goal, words in first.items():
            self.assertEqual(str(broken(study, 0, ["b"], goal)), words)
        self.assertEqual(str(broken(study, 0, ["b"], "whole", "noted")), "u 1")
        self.assertEqual(str(broken(study, 0, ["b"], "noted", "whole")), "u 1")
        self.assertEqual(str(broken(study, 0, ["b"], "whole", "changed")), "u 0")
        self.assertEqual(str(broken(study, 0, ["a"], "whole", "checked")), "u own 0")
        self.assertEqual(str(broken(study, 0, ["a"], "whole")), "u 0 0")
        self.assertIsNone(broken(study, 0, ["u", "a"], "checked"))
        self.assertEqual(str(broken(study, 0, ["u", "a"], "checked", "changed")), "u 0")

    def test_items_that_are_not_held_come_first(self):
        study = study_of("door a one open", "door b one open", "class Box",
                         "  a: if held then raw, self.b | raw", "  b: raw, raw")
        self.assertEqual(str(broken(study, 0, ["a"], "checked")), "b 0")
        self.assertEqual(str(broken(study, 0, ["a", "b"], "whole")), "a 0h")

    def test_nothing_broken(self):
        self.assertIsNone(broken(self.study, 0, ["update", "set"], "checked"))
        self.assertIsNone(broken(self.study, 2, ["set"], "whole"))
        for place in all_places(self.study):
            for doors in all_sets(self.study):
                self.assertIsNone(broken(self.study, place, doors))

    def test_order_and_duplicates(self):
        for goals in (["checked"], ["whole", "whole"], ["noted", "checked", "noted"], GOALS * 9):
            for doors in ([], ["set"], ["update", "set"], ["set", "update", "check"]):
                wanted = words_of(broken(self.study, 0, doors, *goals))
                for other in (doors[::-1], doors * 3, tuple(doors), [*doors, *doors[::-1]]):
                    self.assertEqual(words_of(broken(self.study, 0, other, *goals)), wanted)
                    self.assertEqual(words_of(broken(self.study, 0, doors, *goals[::-1])), wanted)

    def test_arguments(self):
        doors = ["set", "set"]
        broken(self.study, 0, doors, *GOALS)
        passes(self.study, 0, doors)
        leaks(self.study, 0, doors)
        sheet(self.study, 0, doors)
        self.assertEqual(doors, ["set", "set"])
        self.assertIsNone(broken(doors=doors, place=0, study=self.study))

    def test_errors(self):
        study = self.study
        far = ("NoPlace", {"place": 3})
        self.assert_raises_door(far, broken, study, 3, ["nothing"], "nowhere")
        self.assert_raises_door(far, broken, study, 3, [], "whole")
        for place in (-1, -FORTY, FORTY, 4):
            for goals in ((), ("whole",), ("none",)):
                for doors in ([], ["set"], ["none"]):
                    wanted = ("NoPlace", {"place": place})
                    self.assert_raises_door(wanted, broken, study, place, doors, *goals)
        wanted = ("NoDoor", {"door": "put"})
        for goals in ((), ("checked",), ("none",)):
            for doors in (["put"], ["set", "put"], ["put", "none"], ["put", "put"]):
                self.assert_raises_door(wanted, broken, study, 2, doors, *goals)
        for door in ("", "Set", " set", "text", "Box", "x" * 99):
            self.assert_raises_door(("NoDoor", {"door": door}), broken, study, 0, [door], "whole")
        for goal in ("", "Whole", "checked ", "set", "none", "whole" * 99):
            wanted = ("BadGoal", {"goal": goal})
            self.assert_raises_door(wanted, broken, study, 0, [], goal)
            self.assert_raises_door(wanted, broken, study, 0, ["set"], "checked", goal, "other")
            self.assert_raises_door(wanted, broken, study, 0, ["set"], goal, "other", "checked")

    def test_errors_of_the_others(self):
        for action in (passes, leaks, sheet):
            for place in (-1, 3, FORTY, -FORTY):
                for doors in ([], ["none"]):
                    wanted = ("NoPlace", {"place": place})
                    self.assert_raises_door(wanted, action, self.study, place, doors)
            for doors in (["none"], ["set", "none", "other"], ["none", "other"]):
                self.assert_raises_door(("NoDoor", {"door": "none"}), action, self.study, 0, doors)

    def test_errors_where_nothing_is_possible(self):
        study = study_of("door a one inner", "class Box")
        self.assert_raises_door(("BadGoal", {"goal": "x"}), broken, study, 0, [], "x")
        for action in (broken, passes, leaks, sheet):
            self.assert_raises_door(("NoPlace", {"place": 2}), action, study, 2, ["a"])
            self.assert_raises_door(("NoDoor", {"door": "b"}), action, study, 1, ["a", "b"])

    def test_drawn_libraries(self):
        some = {goal: 0 for goal in GOALS}
        for seed, study in enumerate(write_studies(51, 40)):
            pick, kept = random.Random(seed), KeptTraces(study)
            entries = [name for name, _, entry in study.library.doors if entry != "inner"]
            for place in all_places(study):
                for doors in [entries, *pick.sample(all_sets(study), 2)]:
                    for goals in ([pick.choice(GOALS)], pick.sample(GOALS, 2), GOALS):
                        found = plain_breaks(kept, place, doors, goals)
                        wanted = str(found[0]) if found else None
                        self.assertEqual(words_of(broken(study, place, doors, *goals)), wanted)
                        if len(goals) == 1:
                            some[goals[0]] += not found
        self.assertGreater(min(some.values()), 3)


class PassesTest(DoorTest):
    def counts(self, study, place, doors):
        return [f"{case}: {count}" for case, count in passes(study, place, doors)]

    def test_the_library_of_the_document(self):
        study = Study(Library.read(TEXT))
        self.assertEqual(self.counts(study, 0, ["set"]), [
            "set 0: 1", "set 1: 1", "update 0: 1", "update 1: 1", "update own 0: 0",
            "update own 1: 0", "set 0h: 1", "set 1h: 1", "update 0h: 1", "update 1h: 1",
            "update own 0h: 0", "update own 1h: 0"])
        self.assertEqual(
            [count for case, count in passes(study, 0, ["set", "update", "check"])],
            [1, 2, 2, 3, 1, 1] * 2)
        # At place 2, the ground, only check is seen, which dispatches nothing further.
        self.assertEqual([count for case, count in passes(study, 2, ["check", "set"])], [0] * 12)

    def test_counts(self):
        study = study_of("door a one open", "door b one open", "door c one open", "door d one inner",
                         "class Box", "  a: self.d, self.d, self.d", "  b: drop",
                         "  c: self.d, raw, self.d", "  d: drop")
        for doors, wanted in (([], [-1, -1, 0]), (["d"], [-1, -1, 1]), (["c", "d"], [-1, -1, 2])):
            self.assertEqual([count for case, count in passes(study, 0, doors)], wanted * 2)

    def test_order_and_new_lists(self):
        for study in write_studies(52, 10):
            for place in all_places(study):
                for doors in all_sets(study)[:9]:
                    rows = passes(study, place, doors)
                    self.assertEqual([case for case, count in rows], list(study.cases(1)))
                    rows.clear()
                    self.assertEqual(len(passes(study, place, doors)), len(list(study.cases(1))))
                    self.assertTrue(all(isinstance(row, tuple) for row in passes(study, place, [])))

    def test_against_visits(self):
        for study in write_studies(53, 40):
            for place in all_places(study):
                for doors in all_sets(study)[::5]:
                    for case, count in passes(study, place, doors):
                        trace = study.trace(case)
                        puts = [at for at, row in enumerate(trace) if row[0] == "put"]
                        seen = visits(trace[:puts[0]], place, doors) if puts else None
                        self.assertEqual(count, -1 if seen is None else len(seen))

    def test_inner_doors_only(self):
        study = study_of("door a one inner", "door u many inner", "mark x", "class Box")
        for place in (0, 1):
            self.assertEqual(passes(study, place, ["a"]), [])
            self.assertEqual(leaks(study, place, []), [])
            for goals in ([], ["checked"], GOALS):
                self.assertIsNone(broken(study, place, ["u"], *goals))


class LeaksTest(DoorTest):
    def test_order(self):
        lines = ["door d one open", "door c one open", "door b many open", "door a many open",
                 "class Base", "  a: each raw", "  d: raw", "class Box(Base)", "  c: raw, super.d",
                 "  b: all raw ; all super.a"]
        study = study_of(*lines)
        self.assertEqual(
            leaks(study, 0, []), [(0, "c"), (0, "b"), (1, "d"), (1, "a")])
        self.assertEqual(leaks(study, 1, ["d", "a"]), [(0, "c"), (0, "b")])
        self.assertEqual(leaks(study, 0, ["d", "a"]), [(0, "c"), (0, "b"), (1, "d"), (1, "a")])
        self.assertEqual(leaks(study, 0, ["b", "c"]), [(1, "d"), (1, "a")])
        self.assertEqual(leaks(study, 0, ["c", "a", "d"]), [(0, "b"), (1, "a")])

    def test_all_puts_in_front_of_the_first_visit(self):
        study = study_of("door a one open", "door b one inner", "door c one inner", "class Box",
                         "  a: raw, self.b, self.c", "  b: raw", "  c: raw")
        self.assertEqual(leaks(study, 0, []), [(0, "a"), (0, "b"), (0, "c")])
        self.assertEqual(leaks(study, 0, ["c"]), [(0, "a"), (0, "b")])
        self.assertEqual(leaks(study, 0, ["b"]), [(0, "a")])
        self.assertEqual(leaks(study, 0, ["a"]), [])
        # The ground has the position behind the last class.
        self.assertEqual(leaks(study_of("door a one open", "class Box"), 0, []), [(1, "a")])

    def test_against_plain_search(self):
        some = 0
        for study in write_studies(54, 40):
            names = [name for name, _, _ in study.library.doors]
            for place in all_places(study):
                for doors in all_sets(study)[::3]:
                    found = set()
                    for case in study.cases(1):
                        trace = study.trace(case)
                        for at, row in enumerate(trace):
                            if row[0] == "put" and not visits(trace[:at], place, doors):
                                found.add((row[3], row[2]))
                    wanted = sorted(found, key=lambda row: (row[0], names.index(row[1])))
                    rows = leaks(study, place, doors)
                    self.assertEqual(rows, wanted)
                    self.assertEqual(rows == [], broken(study, place, doors, "checked") is None)
                    some += len(rows) > 1
                    rows.clear()
                    self.assertEqual(leaks(study, place, doors), wanted)
        self.assertGreater(some, 50)


class SheetTest(unittest.TestCase):
    heading = "door     takes  drop never  once  more"

    def test_the_library_of_the_document(self):
        study = Study(Library.read(TEXT))
        self.assertEqual(sheet(study, 0, ["set"]).split("\n"), [
            self.heading,
            "set      one       0     0     4     0",
            "update   many      0     4     4     0",
            "all                0     4     8     0"])
        self.assertEqual(sheet(study, 0, ("check", "set", "update", "set")).split("\n"), [
            self.heading,
            "set      one       0     0     2     2",
            "update   many      0     0     4     4",
            "all                0     0     6     6"])

    def test_names_and_entries(self):
        study = study_of("door a one inner", "door abcdefgh one open", "door b many make",
                         "door c many inner", "mark x", "mark y", "class Box", "  b: each drop")
        self.assertEqual(sheet(study, 1, ["abcdefgh", "c"]).split("\n"), [
            self.heading,
            "abcdefgh one       0     0     8     0",
            "b        many      8     0     0     0",
            "all                8     0     8     0"])

    def test_no_possible_case(self):
        study = study_of("door a one inner", "class Box")
        for doors in ([], ["a"]):
            self.assertEqual(
                sheet(study, 0, doors), self.heading + "\nall                0     0     0     0")

    def test_no_put(self):
        study = study_of("door a one open", "door u many open", "class Box", "  a: drop", "  u: each drop")
        self.assertEqual(sheet(study, 0, ["a"]).split("\n")[1:], [
            "a        one       1     0     0     0",
            "u        many      2     0     0     0",
            "all                3     0     0     0"])

    def test_wide_numbers(self):
        lines = [f"door {name} many open" for name in "abcdef"]
        study = study_of(*lines, "mark x", "mark y", "class Box", "  f: each drop",
                         "  a: each self.b, self.c")
        self.assertEqual(sheet(study, 0, ["b", "c"]).split("\n"), [
            self.heading,
            "a        many      0     0    16     0",
            "b        many      0     0    16     0",
            "c        many      0     0    16     0",
            "d        many      0    16     0     0",
            "e        many      0    16     0     0",
            "f        many     16     0     0     0",
            "all               16    32    48     0"])

    def test_lines_against_passes(self):
        for study in write_studies(55, 30):
            for place in all_places(study):
                for doors in all_sets(study)[::7]:
                    lines = sheet(study, place, doors).split("\n")
                    self.assertEqual(lines[0], self.heading)
                    rows = passes(study, place, doors)
                    wanted = [(name, takes) for name, takes, entry in study.library.doors
                              if entry != "inner"]
                    self.assertEqual(len(lines), len(wanted) + 2)
                    for line, (name, takes) in zip(lines[1:], [*wanted, ("all", "")]):
                        counts = [count for case, count in rows if name in ("all", case.door)]
                        numbers = [sum(count == at for count in counts) for at in (-1, 0, 1)]
                        numbers.append(sum(count > 1 for count in counts))
                        self.assertEqual(len(line), 38)
                        self.assertEqual(line[:8], name + " " * (8 - len(name)))
                        self.assertEqual(line[8:14], " " + takes + " " * (5 - len(takes)))
                        parts = [line[at:at + 6] for at in (14, 20, 26, 32)]
                        self.assertEqual([int(part) for part in parts], numbers)
                        self.assertEqual([part.lstrip() for part in parts], list(map(str, numbers)))


class TraceOfGoalsTest(unittest.TestCase):
    def test_the_traces_that_the_tests_above_speak_of(self):
        study = study_of(*ONES, "  a: self.b, raw, self.c", "  c: drop")
        self.assertEqual(told(study.trace(broken(study, 0, ["c"], "whole"))), [
            "0 a 0-0 0", "1 b 0-1 0", "2 b 1 puts 0", "1 a 0 puts 0", "1 c 0-0 0"])


if __name__ == "__main__":
    unittest.main()
