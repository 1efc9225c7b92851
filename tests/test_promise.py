"""What the whole is for (point 3): goals and comparisons agree with what heirs and boxes do."""

import inspect
import itertools
import random
import unittest

from everydoor.alike import alike, observe, parting
from everydoor.boxes import Box
from everydoor.errors import Refused
from everydoor.goals import broken, leaks, passes, sheet
from everydoor.heirs import Heir
from everydoor.library import Library
from everydoor.midway import stays, torn
from everydoor.sets import barring, best_places, good_sets, least_sets
from everydoor.study import Study
from everydoor.traces import around, visits
from helper import GOALS, TEXT, DoorTest, all_places, all_sets, some_cases, write_pairs, write_studies


class Call:
    """A call of a case on a box whose held items were brought in while the heir replaced nothing."""

    def __init__(self, study, case, place, doors, rule):
        heir = Heir(study, rule, place=place)
        items = [(at, marks, 10 + at) for at, (marks, _) in enumerate(case.states)]
        held = [(at, -1) for at, (_, held) in enumerate(case.states) if held]
        self.box = self.refused = None
        self.before = []
        if (case.door, "many", "make") in study.library.doors:
            heir.replaced = doors
            try:
                self.box = Box.made(heir, case.door, *items, own=case.own)
            except Refused as why:
                self.refused = (why.door, why.key, why.value)
            return
        self.box = Box.holding(heir, *held)
        self.before = self.box.contents
        heir.replaced = doors
        try:
            self.box.put(case.door, *items, own=case.own)
        except Refused as why:
            self.refused = (why.door, why.key, why.value)


def add_one(door, key, value):
    return value + 1


def refuse(door, key, value):
    return None


class GoalTest(unittest.TestCase):
    """Sets of doors with which a goal holds, against calls with many items and any history."""

    def histories(self, seed, goal, many):
        """Yield (study, place, doors, cases) such that the goal holds."""
        pick, found = random.Random(seed), 0
        for study in write_studies(seed, 400):
            place = pick.choice(all_places(study))
            good = [doors for doors in good_sets(study, place, goal)
                    if any(count >= 0 for case, count in passes(study, place, doors))]
            if good and (goal != "whole" or len(good) > 1):
                yield study, place, pick.choice(good[-3:]), some_cases(study, seed + found, (1, 2, 4, 8))
                found += 1
            if found == many:
                return
        self.fail("too few good sets")

    def test_checked(self):
        """A put item has been asked for before, first with the value that was passed."""
        for study, place, doors, cases in self.histories(91, "checked", 15):
            for case, limit in itertools.product(cases, (0, 1, 2, 5)):
                answers = [3] * limit + [None]
                call = Call(study, case, place, doors, lambda *_: answers.pop(0) if answers else 4)
                if call.box is None:
                    continue
                asked = {}
                for door, key, value in call.box.journal:
                    asked.setdefault(key, value)
                rows = call.box.rows
                seen = visits(rows, place, doors)
                for at, row in enumerate(rows):
                    if row[0] == "put":
                        self.assertEqual(asked[row[4]], 10 + row[4])
                        self.assertTrue(any(row[4] in rows[index][6] for index in seen if index < at))
                if limit == 0:
                    self.assertEqual(call.box.contents, call.before)

    def test_changed(self):
        """The last value that is put is that of one visit, whatever the rule adds."""
        for study, place, doors, cases in self.histories(92, "changed", 12):
            for case in cases:
                box = Call(study, case, place, doors, add_one).box
                put = {row[4] for row in box.rows if row[0] == "put"}
                values = {key: value for key, _, value in box.contents}
                for key in values:
                    self.assertEqual(values[key], 11 + key if key in put else -1)

    def test_noted(self):
        """Counting the questions of a call counts the items that it puts."""
        for study, place, doors, cases in self.histories(93, "noted", 12):
            for case in cases:
                asked = []
                box = Call(study, case, place, doors, lambda door, key, value: asked.append(key) or 0).box
                put = {row[4] for row in box.rows if row[0] == "put"}
                self.assertEqual(sorted(asked), sorted(put))

    def test_whole(self):
        """A refused call of an open door leaves the contents as they were."""
        refused = 0
        for study, place, doors, cases in self.histories(94, "whole", 30):
            for case, limit in itertools.product(cases, (0, 1, 2, 3, 8)):
                answers = [3] * limit
                call = Call(study, case, place, doors, lambda *_: answers.pop() if answers else None)
                if call.refused and call.box is not None:
                    self.assertEqual(call.box.contents, call.before)
                    refused += 1
        self.assertGreater(refused, 100)


class BrokenTest(unittest.TestCase):
    """Cases that break a goal, as calls on boxes."""

    def cases(self, seed, goal):
        pick = random.Random(seed)
        for study in write_studies(seed, 60):
            place, doors = pick.choice(all_places(study)), pick.choice(all_sets(study))
            case = broken(study, place, doors, goal)
            if case is not None:
                yield study, place, doors, case

    def test_checked(self):
        for study, place, doors, case in self.cases(95, "checked"):
            if (case.door, "many", "make") in study.library.doors:
                trace = study.trace(case)
                first = [row[0] for row in trace].index("put")
                self.assertEqual(visits(trace[:first], place, doors), [])
                continue
            call = Call(study, case, place, doors, refuse)
            self.assertEqual([value for key, marks, value in call.box.contents], [10])

    def test_changed(self):
        for study, place, doors, case in self.cases(96, "changed"):
            rows = Call(study, case, place, doors, add_one).box.rows
            seen = visits(rows, place, doors)
            counts = [len(set(around(rows, at)) & set(seen))
                      for at, row in enumerate(rows) if row[0] == "put"]
            self.assertNotEqual(set(counts), {1})

    def test_noted(self):
        for study, place, doors, case in self.cases(97, "noted"):
            box = Call(study, case, place, doors, add_one).box
            puts = [row for row in box.rows if row[0] == "put"]
            self.assertNotEqual(len(box.journal), min(1, len(puts)))

    def test_whole(self):
        for study, place, doors, case in self.cases(98, "whole"):
            changed = []
            for limit in range(1 + len(study.trace(case)) * 2):
                answers = [3] * limit
                call = Call(study, case, place, doors, lambda *_: answers.pop() if answers else None)
                if call.refused:
                    changed.append(call.box.contents != call.before)
            self.assertIn(True, changed)


def behave(study, case, doors):
    """Return all that heirs tell that replace these doors, and refuse at each of their questions."""
    told = []
    for limit in itertools.count():
        asked = []

        def rule(door, key, value):
            asked.append((door, key, value))
            return 100 + len(asked) if len(asked) <= limit else None

        call = Call(study, case, 0, doors, rule)
        told.append((asked, call.refused, call.before, call.box and call.box.contents))
        if not call.refused:
            return told


class AlikeTest(unittest.TestCase):
    def test_an_heir_tells_the_libraries_apart(self):
        some = {0: 0, 1: 0}
        for one, other in write_pairs(99, 200):
            found = parting(one, other)
            if found is None:
                continue
            doors, case = found
            self.assertNotEqual(behave(one, case, doors), behave(other, case, doors))
            smaller = [row for row in all_sets(one) if len(row) < len(doors)]
            for case in itertools.islice(one.cases(2), 0, None, 9):
                for row in smaller:
                    self.assertEqual(behave(one, case, row), behave(other, case, row))
            some[len(doors)] += 1
        self.assertGreater(min(some.values()), 3)

    def test_no_heir_tells_alike_libraries_apart(self):
        some = 0
        for seed, (one, other) in enumerate(write_pairs(100, 40)):
            if alike(one, other):
                for doors in all_sets(one)[::6]:
                    for case in some_cases(one, seed, (1, 2, 4)):
                        self.assertEqual(behave(one, case, doors), behave(other, case, doors))
                        some += 1
        self.assertGreater(some, 100)

    def test_observations_are_what_heirs_see(self):
        """An heir that numbers its questions sees the nests in the values that it is asked."""
        for seed, study in enumerate(write_studies(101, 25)):
            doors = all_sets(study)[-1 - seed % 4]
            for case in some_cases(study, seed, (1, 3)):
                asked = behave(study, case, doors)[-1][0]
                seen = observe(study, case, doors)[:-1]
                self.assertEqual([row[:2] for row in asked], [row[:2] for row in seen])
                for (_, key, value), (_, item, nest, _) in zip(asked, seen):
                    self.assertEqual(value, 101 + nest[-1] if nest else 10 + item)

    def test_contents_are_what_heirs_leave(self):
        for seed, study in enumerate(write_studies(102, 25)):
            doors = all_sets(study)[-1 - seed % 4]
            for case in some_cases(study, seed, (1, 3)):
                if (case.door, "many", "make") in study.library.doors:
                    continue
                rows = behave(study, case, doors)
                entries = observe(study, case, doors)
                self.assertEqual(len(rows), len(entries))
                for (_, _, _, contents), (_, _, _, seen) in zip(rows, entries):
                    wanted = []
                    for item, nest in seen:
                        wanted.append((item, -1 if nest is None else 101 + nest[-1] if nest else 10 + item))
                    self.assertEqual([(key, value) for key, _, value in contents], wanted)


class InterfaceTest(unittest.TestCase):
    def test_functions_stand_in_their_modules_with_their_parameters(self):
        wanted = {
            "goals": [(broken, "study place doors goals"), (passes, "study place doors"),
                      (leaks, "study place doors"), (sheet, "study place doors")],
            "sets": [(good_sets, "study place goals"), (least_sets, "study place goals"),
                     (best_places, "study goals"), (barring, "study place goals")],
            "midway": [(stays, "study case place doors"), (torn, "study place doors")],
            "alike": [(observe, "study case doors"), (parting, "first second"),
                      (alike, "first second")],
        }
        for module, rows in wanted.items():
            for function, words in rows:
                self.assertEqual(function.__module__, f"everydoor.{module}")
                self.assertEqual(list(inspect.signature(function).parameters), words.split(" "))


class OneStudyTest(DoorTest):
    """One study that is asked many questions in turn, and results that are changed."""

    def questions(self, study):
        place = len(study.library) // 2
        doors = [name for name, _, _ in study.library.doors][:2]
        cases = some_cases(study, 5, (1, 3))
        return [
            lambda: list(study.cases(1)), lambda: list(study.cases(2)),
            lambda: passes(study, place, doors), lambda: leaks(study, place, doors),
            lambda: [sheet(study, 0, doors)], lambda: [broken(study, place, doors, *GOALS)],
            lambda: good_sets(study, 0, "checked"), lambda: least_sets(study, place, "changed"),
            lambda: best_places(study, "checked", "whole"), lambda: barring(study, 0, "noted", "whole"),
            lambda: [torn(study, 0, doors)], lambda: [parting(study, study)],
            *[lambda case=case: study.trace(case) for case in cases],
            *[lambda case=case: stays(study, case, place, doors) for case in cases],
            *[lambda case=case: observe(study, case, doors) for case in cases],
        ]

    def test_answers_stay_the_same(self):
        for seed, study in enumerate([Study(Library.read(TEXT)), *write_studies(103, 8)]):
            text = study.library.text
            asked = self.questions(study)
            wanted = [question() for question in self.questions(Study(Library.read(text)))]
            order = list(range(len(asked)))
            for _ in range(2):
                random.Random(seed).shuffle(order)
                for at in order:
                    found = asked[at]()
                    self.assertEqual(found, wanted[at])
                    found.clear()

    def test_errors_change_nothing(self):
        study = Study(Library.read(TEXT))
        wanted = [question() for question in self.questions(Study(Library.read(TEXT)))]
        self.raised(broken, study, 9, ["set"], "checked")
        self.raised(good_sets, study, 0, "none")
        self.raised(barring, study, -1, "checked")
        self.raised(passes, study, 0, ["none"])
        self.raised(torn, study, 0, ["set", "none"])
        self.raised(stays, study, next(study.cases(1)), 0, ["none"])
        self.raised(observe, study, next(study.cases(1)), ["none"])
        self.assertEqual([question() for question in self.questions(study)], wanted)


if __name__ == "__main__":
    unittest.main()
