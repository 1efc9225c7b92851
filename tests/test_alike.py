"""Libraries compared by what heirs in front of them can see (points 41 and 42)."""

import itertools
import random
import unittest

from everydoor.alike import alike, observe, parting
from everydoor.cases import Case
from everydoor.library import Library
from everydoor.study import Study
from everydoor.traces import around, visits
from helper import (
    FORTY, TEXT, DoorTest, KeptTraces, all_sets, case_of, some_cases, study_of, write_pairs,
    write_studies)

ONES = ("door a one open", "door b one inner", "door c one inner", "class Box")
MANYS = ("door u many open", "door m many make", "door a one inner", "door b one inner", "class Box")


def plain_observe(study, case, doors):
    """Return the observation as point 41 says it."""
    trace = study.trace(case)
    seen = visits(trace, 0, doors)
    numbers = {}
    for index in seen:
        for item in trace[index][6]:
            numbers[index, item] = len(numbers)

    def nest(index, item):
        return tuple(numbers[at, item] for at in around(trace, index) if at in seen)

    def contents(end):
        puts = [(at, row[4]) for at, row in enumerate(trace[:end]) if row[0] == "put"]
        order = [item for item, (_, held) in enumerate(case.states) if held]
        order += [item for _, item in puts if item not in order]
        rows = []
        for item in dict.fromkeys(order):
            last = [at for at, other in puts if other == item]
            rows.append((item, nest(last[-1], item) if last else None))
        return tuple(rows)

    hidden = (case.door, "many", "make") in study.library.doors
    entries = [(trace[index][2], item, nest(index, item), () if hidden else contents(index))
               for index in seen for item in trace[index][6]]
    return [*entries, ("", -1, (), contents(len(trace)))]


def plain_parting(first, second):
    """Return what point 42 says, by all sets of doors and all cases in turn."""
    first, second = KeptTraces(first), KeptTraces(second)
    rows = [[*first.cases(1), *first.cases(2)], [*second.cases(1), *second.cases(2)]]
    common = [case for case in rows[0] if case in rows[1]]
    for doors in all_sets(first):
        for case in common:
            if plain_observe(first, case, doors) != plain_observe(second, case, doors):
                return (doors, case)
    assert len(common) == len(rows[0]) == len(rows[1])
    return None


class ObserveTest(DoorTest):
    def check(self, lines, words, doors, wanted):
        study = study_of(*lines)
        self.assertEqual(observe(study, case_of(words), doors), wanted)
        self.assertEqual(plain_observe(study, case_of(words), doors), wanted)

    def test_example(self):
        first = study_of("door set one open", "door update many open", "class Box",
                         "  update: each self.set")
        second = study_of("door set one open", "door update many open", "class Box",
                          "  update: if own then all raw else each self.set")
        doors, case = parting(first, second)
        self.assertEqual(
            [observe(first, Case("update", [(0, False)]), ["set"]), doors, str(case)],
            [[("set", 0, (), ()), ("", -1, (), ((0, (0,)),))], ("set",), "update own 0"])

    def test_no_visit(self):
        self.check([*ONES, "  a: drop"], "a 0", [], [("", -1, (), ())])
        self.check(ONES, "a 0", [], [("", -1, (), ((0, ()),))])
        self.check(ONES, "a 0h", ["b", "c"], [("", -1, (), ((0, ()),))])
        self.check([*ONES, "  a: if held then drop | raw"], "a 0h", [], [("", -1, (), ((0, None),))])

    def test_several_items_in_one_visit(self):
        self.check(MANYS, "u 0 0 0", ["u"], [
            ("u", 0, (), ()), ("u", 1, (), ()), ("u", 2, (), ()),
            ("", -1, (), ((0, (0,)), (1, (1,)), (2, (2,))))])

    def test_visits_within_visits(self):
        lines = [*MANYS, "  u: each self.a, raw", "  a: self.b, raw"]
        self.check(lines, "u 0 0", ["u", "a", "b"], [
            ("u", 0, (), ()), ("u", 1, (), ()),
            ("a", 0, (0,), ()), ("b", 0, (0, 2), ()),
            ("a", 1, (1,), ((0, (0,)),)), ("b", 1, (1, 4), ((0, (0,)),)),
            ("", -1, (), ((0, (0,)), (1, (1,))))])
        self.check(lines, "u 0 0", ["b", "a"], [
            ("a", 0, (), ()), ("b", 0, (0,), ()),
            ("a", 1, (), ((0, ()),)), ("b", 1, (2,), ((0, ()),)),
            ("", -1, (), ((0, ()), (1, ())))])
        self.check(lines[:-2] + ["  u: each self.a", "  a: self.b"], "u 0 0", ["u", "b"], [
            ("u", 0, (), ()), ("u", 1, (), ()), ("b", 0, (0,), ()), ("b", 1, (1,), ((0, (0, 2)),)),
            ("", -1, (), ((0, (0, 2)), (1, (1, 3))))])

    def test_an_item_written_over(self):
        lines = [*ONES, "  a: self.b, raw, self.c", "  c: drop"]
        self.check(lines, "a 0", ["b", "c"], [
            ("b", 0, (), ()), ("c", 0, (), ((0, ()),)), ("", -1, (), ((0, ()),))])
        lines = [*ONES, "  a: raw, self.c, self.b", "  c: drop"]
        self.check(lines, "a 0", ["b", "c", "a"], [
            ("a", 0, (), ()), ("c", 0, (0,), ((0, (0,)),)), ("b", 0, (0,), ((0, (0,)),)),
            ("", -1, (), ((0, (0, 2)),))])
        lines = [*MANYS, "  u: each self.a, self.b"]
        self.check(lines, "u 0 0", ["b"], [
            ("b", 0, (), ((0, ()),)), ("b", 1, (), ((0, (0,)), (1, ()))),
            ("", -1, (), ((0, (0,)), (1, (1,))))])

    def test_held_items_come_in_the_order_of_their_numbers(self):
        lines = ["door u many open", "door a one inner", "mark x", "class Box",
                 "  u: each if x then self.a | drop ; each if held then drop | raw"]
        self.check(lines, "u 0 0h 1h 1 0h", ["a"], [
            ("a", 2, (), ((1, None), (2, None), (4, None))),
            ("a", 3, (), ((1, None), (2, (0,)), (4, None))),
            ("", -1, (), ((1, None), (2, (0,)), (4, None), (3, (1,)), (0, ())))])

    def test_only_the_dispatches_that_cross_the_first_place(self):
        lines = ["door a one open", "door b one inner", "class Base", "  a: self.b",
                 "class Box(Base)", "  a: super.a"]
        self.check(lines, "a 0", ["a", "b"], [
            ("a", 0, (), ()), ("b", 0, (0,), ()), ("", -1, (), ((0, (0, 1)),))])
        lines = ["door a one open", "door b one inner", "class Base", "  b: super.b, super.b",
                 "class Box(Base)", "  a: super.b", "  b: super.b"]
        self.check(lines, "a 0", ["a", "b"], [("a", 0, (), ()), ("", -1, (), ((0, (0,)),))])

    def test_a_maker(self):
        lines = [*MANYS, "  m: each raw, self.a ; all raw", "  a: drop"]
        self.check(lines, "m 0 0", ["m", "a"], [
            ("m", 0, (), ()), ("m", 1, (), ()), ("a", 0, (0,), ()), ("a", 1, (1,), ()),
            ("", -1, (), ((0, (0,)), (1, (1,))))])
        lines[-2] = "  u: each raw, self.a ; all raw"
        self.check(lines, "u 0 0", ["a"], [
            ("a", 0, (), ((0, ()),)), ("a", 1, (), ((0, ()), (1, ()))),
            ("", -1, (), ((0, ()), (1, ())))])

    def test_a_maker_that_is_dispatched_by_an_open_door(self):
        lines = [*MANYS, "  u: all raw, self.m", "  m: each self.a"]
        self.check(lines, "u 0 0", ["a", "m"], [
            ("m", 0, (), ((0, ()), (1, ()))), ("m", 1, (), ((0, ()), (1, ()))),
            ("a", 0, (0,), ((0, ()), (1, ()))), ("a", 1, (1,), ((0, (0, 2)), (1, ()))),
            ("", -1, (), ((0, (0, 2)), (1, (1, 3))))])

    def test_arguments_and_kinds(self):
        study, doors = study_of(*MANYS), ["a", "u", "a"]
        case = case_of("u own 0 0h")
        found = observe(study, case, doors)
        self.assertEqual(doors, ["a", "u", "a"])
        self.assertEqual(str(case), "u own 0 0h")
        self.assertEqual(found, observe(doors=("u", "a"), case=case, study=study))
        self.assertIsInstance(found, list)
        self.assertEqual(
            repr(found), "[('u', 0, (), ((1, None),)), ('u', 1, (), ((1, None),)),"
            " ('', -1, (), ((1, (1,)), (0, (0,))))]")
        found.clear()
        self.assertEqual(len(observe(study, case, doors)), 3)

    def test_errors(self):
        study = study_of(*MANYS)
        errors = [
            ("none 0", ("NoDoor", {"door": "none"})),
            ("b 0", ("NotOpen", {"door": "b"})),
            ("u 0 4 9", ("BadMarks", {"number": 4})),
            ("m 0h", ("Impossible", {"case": case_of("m 0h")})),
        ]
        for words, wanted in errors:
            for doors in (["a"], ["other"], []):
                self.assert_raises_door(wanted, observe, study, case_of(words), doors)
        case = Case("u", [(-FORTY, False)])
        self.assert_raises_door(("BadMarks", {"number": -FORTY}), observe, study, case, ["other"])
        for words in ("a own 0", "a 0 0"):
            wanted = ("BadBatch", {"door": "a"})
            self.assert_raises_door(wanted, observe, study_of(*ONES), case_of(words), ["other"])
        for doors in (["other"], ["a", "other", "none"], ["other", "other"], [""]):
            wanted = ("NoDoor", {"door": doors[doors[0] == "a"]})
            self.assert_raises_door(wanted, observe, study, case_of("u 0"), doors)

    def test_drawn_libraries(self):
        for seed, study in enumerate(write_studies(81, 60)):
            for case in some_cases(study, seed):
                for doors in [*all_sets(study)[::7], all_sets(study)[-1]]:
                    self.assertEqual(
                        observe(study, case, doors), plain_observe(study, case, doors))


class PartingTest(DoorTest):
    def check(self, first, second, wanted, words=None):
        """The libraries part for the doors of this one word; None if they are alike."""
        first, second = study_of(*first), study_of(*second)
        for one, other in ((first, second), (second, first)):
            found = parting(one, other)
            self.assertEqual(found, plain_parting(one, other))
            self.assertIs(alike(one, other), wanted is None)
            if wanted is None:
                self.assertIsNone(found)
            else:
                self.assertIsInstance(found, tuple)
                self.assertEqual((found[0], str(found[1])), (tuple(wanted), words))
                self.assertIsInstance(found[1], Case)

    def test_libraries_that_cannot_be_compared(self):
        lines = ["door set one open", "door update many open", "door check one inner", "mark text",
                 "class Box"]
        changes = [
            ("door check one inner", "door other one inner"),
            ("door set one open", "door set one inner"),
            ("door set one open", "door set many open"),
            ("door update many open", "door update many make"),
            ("door update many open", "door update one open"),
            ("mark text", "mark other"),
            ("\nmark text", ""),
            ("mark text", "mark text\nmark other"),
            ("\ndoor check one inner", ""),
            ("door check one inner", "door check one inner\ndoor more one inner"),
            ("door set one open\ndoor update many open", "door update many open\ndoor set one open"),
        ]
        one = study_of(*lines)
        for old, new in changes:
            text = "\n".join(lines)
            self.assertIn(old, text)
            other = Study(Library.read(text.replace(old, new)))
            for action in (parting, alike):
                self.assert_raises_door(("Unlike", {}), action, one, other)
                self.assert_raises_door(("Unlike", {}), action, other, one)
        marks = [study_of("door a one open", f"mark {one}", f"mark {other}", "class Box")
                 for one, other in ("xy", "yx")]
        self.assert_raises_door(("Unlike", {}), parting, *marks)
        self.assert_raises_door(("Unlike", {}), alike, first=marks[1], second=marks[0])

    def test_the_empty_set(self):
        self.check([*ONES], [*ONES, "  a: drop"], "", "a 0")
        self.check([*ONES, "  a: if held then drop | raw"], ONES, "", "a 0h")
        lines = ["door u many open", "mark x", "class Box"]
        self.check(lines, [*lines, "  u: each if x then raw | drop ; all raw"], "", "u 0 1")
        self.check(lines, [*lines, "  u: if own then all drop else all raw"], "", "u own 0")

    def test_the_empty_set_and_no_opening(self):
        lines = ["door i one inner", "door m many make", "door u many open", "mark x", "class Box"]
        none = [*lines, "  m: all drop", "  u: all drop"]
        self.check(none, [*lines, "  m: all drop", "  u: each if x then raw | drop"], "", "u 1")
        self.check(none, [*lines, "  u: all drop"], "", "m 0")
        self.check(none, [*lines, "  u: all drop", "  m: if own then all raw else all drop"],
                   "", "m own 0")
        # The first difference is that of doors, but the empty set comes first.
        self.check([*lines, "  m: each self.i", "  u: all drop", "  i: drop"],
                   [*lines, "  m: all drop", "  u: each if not x then drop | raw"], "", "u 1")

    def test_one_door(self):
        self.check([*ONES, "  a: self.b, raw"], ONES, "b", "a 0")
        self.check([*ONES, "  a: if held then self.c, raw | raw"], ONES, "c", "a 0h")
        self.check([*ONES, "  a: self.b"], [*ONES, "  a: self.b, raw"], "b", "a 0")
        self.check([*ONES, "  a: raw, self.b", "  b: drop"], [*ONES, "  a: self.b, raw", "  b: drop"],
                   "b", "a 0")
        self.check([*MANYS, "  u: each self.a"], [*MANYS, "  u: all raw ; each self.a", "  a: drop"],
                   "a", "u 0")
        # Both visit each item once, and put it within the visit, but the items are mixed otherwise.
        self.check([*MANYS, "  u: each self.a"], [*MANYS, "  u: each self.a ; all drop"], None)
        self.check([*MANYS, "  u: each self.a, raw", "  a: drop"],
                   [*MANYS, "  u: each self.a ; all raw", "  a: drop"], "a", "u 0 0")

    def test_two_doors(self):
        drops = ["  b: drop", "  c: drop"]
        self.check([*ONES, "  a: self.b, self.c, raw", *drops],
                   [*ONES, "  a: self.c, self.b, raw", *drops], "bc", "a 0")
        self.check([*ONES, "  a: self.b", "  b: self.c", "  c: drop"],
                   [*ONES, "  a: self.b, self.c", *drops], "bc", "a 0")
        self.check([*ONES, "  a: if held then self.b, self.c, raw | raw", *drops],
                   [*ONES, "  a: if held then self.c, self.b, raw | raw", *drops], "bc", "a 0h")
        self.check([*MANYS, "  u: each self.a, self.b", "  a: drop", "  b: drop"],
                   [*MANYS, "  u: each self.a ; each self.b", "  a: drop", "  b: drop"],
                   "ab", "u 0 0")

    def test_alike_though_the_texts_differ(self):
        self.check(ONES, ONES, None)
        self.check(ONES, [*ONES, "class Other(Box)"], None)
        self.check([*ONES, "  a: raw, raw"], ONES, None)
        self.check([*ONES, "  a: self.b", "  b: super.b, super.b"], [*ONES, "  a: self.b"], None)
        self.check([*ONES, "  b: self.c"], ONES, None)
        self.check([*ONES, "  a: super.b"], [*ONES, "  a: raw"], None)
        self.check([*MANYS, "  u: each raw"], MANYS, None)
        self.check([*MANYS, "  m: all raw ; each self.a ; all raw", "  a: drop"],
                   [*MANYS, "  m: each self.a ; all raw", "  a: drop"], None)
        self.check([*MANYS, "  u: if own then all raw else each raw"], MANYS, None)

    def test_alike_without_an_opening(self):
        self.check([*ONES, "  a: drop"], [*ONES, "  a: drop", "  b: raw"], None)
        self.check([*ONES, "  a: self.b", "  b: drop"], [*ONES, "  a: drop"], "b", "a 0")
        self.check([*ONES, "  a: if held then self.b | drop"], [*ONES, "  a: drop"], None)
        inner = ["door a one inner", "class Box"]
        self.check(inner, [*inner, "  a: drop"], None)

    def test_a_door_that_is_dispatched_by_itself(self):
        self.check([*MANYS, "  u: if own then all raw else each self.a"],
                   [*MANYS, "  u: each self.a"], "a", "u own 0")

    def test_new_results(self):
        one, other = study_of(*ONES), study_of(*ONES, "  a: self.b")
        found = [parting(one, other), parting(first=one, second=other)]
        self.assertEqual(found[0], found[1])
        self.assertEqual((found[0][0], str(found[0][1])), (("b",), "a 0"))
        self.assertIsNone(parting(one, one))
        self.assertIs(alike(first=one, second=one), True)

    def test_drawn_pairs(self):
        some = {None: 0, 0: 0, 1: 0}
        for one, other in write_pairs(82, 150, most_doors=4, most_marks=1):
            wanted = plain_parting(one, other)
            self.assertEqual(parting(one, other), wanted)
            self.assertEqual(alike(one, other), wanted is None)
            some[None if wanted is None else len(wanted[0])] += 1
        self.assertGreater(min(some.values()), 2, some)

    def test_drawn_orders_of_hops(self):
        """Bodies that do the same in another order mostly differ for one or two doors."""
        pick, some = random.Random(84), {None: 0, 1: 0, 2: 0}
        for _ in range(80):
            hops = pick.choices(["self.b", "self.c", "self.d", "raw"], k=3)
            below = [pick.choice(["drop", "drop", "self.d"]) for _ in "bc"]
            pair = []
            for _ in range(2):
                hops = pick.sample(hops, 3)
                pair.append(study_of(
                    "door u many open", "door b one inner", "door c one inner", "door d one inner",
                    "class Box", f"  u: each {hops[0]} ; each {hops[1]}, {hops[2]} ; all raw",
                    f"  b: {below[0]}", f"  c: {below[1]}", "  d: drop"))
            wanted = plain_parting(*pair)
            self.assertEqual(parting(*pair), wanted)
            some[None if wanted is None else len(wanted[0])] += 1
        self.assertGreater(min(some.values()), 5, some)

    def test_at_most_two_doors(self):
        for one, other in write_pairs(83, 100):
            found = parting(one, other)
            if found is not None:
                doors, case = found
                self.assertLessEqual(len(doors), 2)
                smaller = itertools.takewhile(lambda row: row != doors, all_sets(one))
                for row in [*smaller, doors]:
                    differ = plain_observe(one, case, row) != plain_observe(other, case, row)
                    self.assertEqual(differ, row == doors)


class OneStudyTest(unittest.TestCase):
    def test_many_questions_in_turn(self):
        study = Study(Library.read(TEXT))
        cases = [*study.cases(1), *study.cases(2)]
        wanted = [observe(Study(Library.read(TEXT)), case, ["set", "check"]) for case in cases]
        for case in reversed(cases):
            observe(study, case, ["update"]).clear()
        self.assertEqual([observe(study, case, ["check", "set"]) for case in cases], wanted)


if __name__ == "__main__":
    unittest.main()
