"""Libraries as classes of Python itself: their calls must do what walks and boxes do."""

import random
import re
import unittest

from everydoor.boxes import Box, try_out
from everydoor.cases import Case
from everydoor.errors import Refused
from everydoor.heirs import Heir
from everydoor.library import Library
from everydoor.study import Study
from everydoor.traces import around, project, visits
from helper import DoorTest, some_cases, write_studies, write_texts


class Stop(Exception):
    """A rule refuses an item, or a call makes too many dispatches."""


class Real:
    """The object on which the methods work; an item is a list [number, key, marks, value]."""

    def __init__(self):
        self.store, self.log, self.journal = {}, [], []
        self.start, self.level, self.most = 0, 0, 10 ** 6

    def land(self, home, door, batch, own, run):
        """Note the dispatch, and run the body one level below."""
        if len([row for row in self.log if row[0] == "go"]) == self.most:
            raise Stop()
        numbers = tuple(item[0] for item in batch)
        held = frozenset(item[0] for item in batch if item[1] in self.store)
        self.log.append(("go", self.level, door, self.start, home, own, numbers, held))
        self.level += 1
        run()
        self.level -= 1

    def save(self, home, door, item):
        self.store[item[1]] = (item[2], item[3])
        self.log.append(("put", self.level, door, home, item[0]))

    def rows(self):
        return [row[:7] for row in self.log]


class Maker:
    """Makes classes of Python from a library text, which it reads by itself."""

    def __init__(self, text):
        self.marks = re.findall(r"^mark (\w+)$", text, re.M)
        self.takes = dict(re.findall(r"^door (\w+) (one|many)", text, re.M))
        self.homes = {}
        self.classes = {"Ground": type("Ground", (Real,), {
            door: self.method("Ground", door, {"one": "raw", "many": "all raw"}[takes])
            for door, takes in self.takes.items()})}
        for block in re.findall(r"^class .*(?:\n  .*)*", text, re.M):
            head, *bodies = block.split("\n")
            name, *bases = re.findall(r"[A-Z][a-z]*", head)
            space = {}
            for body in bodies:
                door, words = body.strip().split(": ")
                space[door] = self.method(name, door, words)
            above = tuple(self.classes[base] for base in bases or ["Ground"])
            self.classes[name] = type(name, above, space)
        self.latest = name
        self.order = [one.__name__ for one in self.classes[name].__mro__[:-3]]
        self.homes.update({name: at for at, name in enumerate([*self.order, "Ground"])})

    def method(self, name, door, words):
        def method(box, batch, own):
            home = self.homes[name]
            box.land(home, door, batch, own, lambda: self.run(box, name, door, words, batch, own))
        return method

    def run(self, box, name, door, words, batch, own):
        if self.takes[door] == "one":
            words = "each " + words
        if words.startswith("if own"):
            words = words[len("if own then "):].split(" else ")[0 if own else 1]
        for phase in words.split(" ; "):
            kind, words = phase.split(" ", 1)
            if kind == "all":
                self.hops(box, name, door, words, batch, own)
            else:
                for item in batch:
                    self.hops(box, name, door, self.choice(box, words, item), [item], False)

    def choice(self, box, words, item):
        for rule in words.split(" | "):
            if not rule.startswith("if "):
                return rule
            test, hops = rule[3:].split(" then ")
            word = test.split(" ")[-1]
            if word == "held":
                found = item[1] in box.store
            else:
                found = item[2] // 2 ** self.marks.index(word) % 2 == 1
            if found != test.startswith("not "):
                return hops

    def hops(self, box, name, door, words, batch, own):
        for hop in words.split(", "):
            way, _, other = hop.partition(".")
            if way == "raw":
                for item in batch:
                    box.save(self.homes[name], door, item)
            elif way == "self":
                box.start = 0
                getattr(box, other)(batch, own)
            elif way == "super":
                box.start = self.homes[name] + 1
                getattr(super(self.classes[name], box), other)(batch, own)

    def heir(self, place, doors, rule):
        """Return the class of Python with the heir in it, as point 12 says."""
        mixin = None

        def visiting(door):
            def method(box, batch, own):
                passed = []
                for number, key, marks, value in batch:
                    box.journal.append((door, key, value))
                    answer = rule(door, key, value)
                    if answer is None:
                        raise Stop((door, key, value))
                    passed.append([number, key, marks, answer])
                getattr(super(mixin, box), door)(passed, own)
            return method

        names = [*self.order, "Ground"]
        mixin = type("M", (self.classes[names[place]],), {door: visiting(door) for door in doors})
        if place == 0:
            return mixin
        joined = type("J", (self.classes[self.latest], mixin), {})
        found = [one.__name__ for one in joined.__mro__[:-2]]
        assert found == ["J", *names[:place], "M", *names[place:]], found
        return joined

    def call(self, box, door, items, own):
        """Call the method; return the arguments of the refusal, or None."""
        box.log, box.start, box.level = [], 0, 0
        try:
            if items:
                getattr(box, door)([[at, *item] for at, item in enumerate(items)], own)
        except Stop as why:
            return why.args[0]


def contents_of(box):
    return [(key, marks, value) for key, (marks, value) in box.store.items()]


class TraceTest(unittest.TestCase):
    def test_orders(self):
        for text in write_texts(11, 60):
            self.assertEqual(Maker(text).order, Library.read(text).order, text)

    def test_traces(self):
        for seed, study in enumerate(write_studies(12, 60)):
            maker = Maker(study.library.text)
            for case in [*study.cases(1), *some_cases(study, seed)]:
                box = maker.classes[maker.latest]()
                for number, (marks, held) in enumerate(case.states):
                    if held:
                        box.store[number] = (marks, 0)
                items = [(number, marks, 0) for number, (marks, _) in enumerate(case.states)]
                self.assertIsNone(maker.call(box, case.door, items, case.own))
                # repr tells True from 1 and a list from a tuple.
                self.assertEqual(repr(study.trace(case)), repr(box.rows()), case)

    def test_restrictions(self):
        for seed, study in enumerate(write_studies(13, 60)):
            pick = random.Random(seed)
            for case in some_cases(study, seed, (1, 2, 3, 4, 8)):
                trace = study.trace(case)
                for size in range(1, len(case) + 1):
                    part = sorted(pick.sample(range(len(case)), size))
                    self.assertEqual(project(trace, part), study.trace(case.only(*part)))
                self.assertEqual(project(trace, []), [])

    def test_around(self):
        for seed, study in enumerate(write_studies(14, 30)):
            for case in some_cases(study, seed, (1, 3)):
                trace, path = study.trace(case), []
                for index, row in enumerate(trace):
                    path = path[:row[1]]
                    self.assertEqual(around(trace, index), path)
                    if row[0] == "go":
                        path = [*path, index]


class EndTest(DoorTest):
    """The first error of each text against the calls of Python's classes, cut at 31 dispatches."""

    def first_error(self, text, cases):
        maker = Maker(text)
        for case in cases:
            box = maker.classes[maker.latest]()
            box.most = 30
            marks, held = case.states[0]
            if held:
                box.store[0] = (marks, 0)
            cut = False
            try:
                getattr(box, case.door)([[0, 0, marks, 0]], case.own)
            except Stop:
                cut = True
            for index, row in enumerate(box.log):
                path = [box.log[at] for at in around(box.rows(), index)] if row[0] == "go" else []
                for at, other in enumerate(path):
                    same = [other[2], *other[4:6], other[7]] == [row[2], *row[4:6], row[7]]
                    if same and row[4] < len(maker.order):
                        ring = [(one[4], one[2]) for one in path[at:]]
                        trail = box.rows()[:index + 1]
                        return ("Endless", {"case": case, "ring": ring, "trail": trail})
            if cut:
                return ("TooLong", {"case": case, "trail": box.rows()})
        return None

    def all_cases(self, library, held):
        found = []
        for door, takes, entry in library.doors:
            if entry != "inner" and not (held and entry == "make"):
                for own in (False, True)[:1 + (takes == "many")]:
                    found += [Case(door, [(marks, held)], own)
                              for marks in range(2 ** len(library.marks))]
        return found

    def test_errors(self):
        kinds = {"Endless": 0, "TooLong": 0, "held": 0, "ring": 0, None: 0}
        for text in write_texts(15, 500):
            library = Library.read(text)
            wanted = self.first_error(text, self.all_cases(library, False))
            if wanted is None and self.opening(text, library) is not None:
                wanted = self.first_error(text, self.all_cases(library, True))
                kinds["held"] += wanted is not None
            kinds[wanted and wanted[0]] += 1
            if wanted is None:
                study = Study(library)
                self.assertEqual(study.opening, self.opening(text, library))
            else:
                kinds["ring"] += len(wanted[1].get("ring", [])) > 1
                self.assert_raises_door(wanted, Study, library)
        self.assertGreater(min(kinds.values()), 3, kinds)

    def opening(self, text, library):
        for case in self.all_cases(library, False):
            maker = Maker(text)
            box = maker.classes[maker.latest]()
            maker.call(box, case.door, [(0, case.states[0][0], 0)], case.own)
            if box.store:
                return case
        return None


class HeirTest(DoorTest):
    """Calls on boxes with heirs at every place, whose rules remember, change and refuse."""

    def make_rule(self, limit):
        """A rule with a memory: each answer depends on how often it has been asked."""
        asked = []

        def rule(door, key, value):
            asked.append(door)
            if limit and len(asked) % limit == 0:
                return None
            return value * 3 + len(asked) + len(door)
        return rule

    def some_sets(self, study, pick):
        doors = [name for name, _, _ in study.library.doors]
        return [[], [pick.choice(doors)], pick.sample(doors, 2), doors]

    def some_calls(self, study, pick, entry):
        above = 2 ** len(study.library.marks)
        doors = [row for row in study.library.doors if row[2] == entry]
        if not doors:
            return
        for _ in range(5):
            name, takes, _ = pick.choice(doors)
            many = 1 if takes == "one" else pick.choice([0, 1, 2, 3, 6])
            keys = pick.sample(range(9), many)
            items = [(key, pick.randrange(above), pick.randrange(-9, 9)) for key in keys]
            yield name, items, takes == "many" and pick.random() < 0.5

    def compare(self, maker, real, box, action, door, items, own):
        """Make the call on both, and compare all that they tell."""
        wanted = maker.call(real, door, items, own)
        try:
            self.assertEqual(
                action(door, *items, own=own), len([1 for row in real.log if row[0] == "put"]))
            self.assertIsNone(wanted)
            self.assertEqual(box.rows, real.rows())
        except Refused as why:
            self.assertEqual((why.door, why.key, why.value), wanted)
            self.assertEqual(box.rows[:-1], real.rows())
            self.assertEqual(box.rows[-1][0:3:2], ("go", wanted[0]))
        self.assertEqual(box.contents, contents_of(real))
        self.assertEqual(box.journal, real.journal)
        return wanted is not None

    def test_calls(self):
        refused = 0
        for seed, study in enumerate(write_studies(16, 40)):
            maker, pick = Maker(study.library.text), random.Random(seed)
            for place in range(len(study.library) + 1):
                for doors in self.some_sets(study, pick):
                    limit = pick.choice([0, 3, 7])
                    heir = Heir(study, self.make_rule(limit), *doors, place=place)
                    box, real = Box(heir), maker.heir(place, doors, self.make_rule(limit))()
                    for door, items, own in self.some_calls(study, pick, "open"):
                        refused += self.compare(maker, real, box, box.put, door, items, own)
        self.assertGreater(refused, 100)

    def test_rows_of_refused_calls_begin_the_trace(self):
        for seed, study in enumerate(write_studies(17, 30)):
            pick = random.Random(seed)
            doors = [name for name, _, _ in study.library.doors]
            for place in range(len(study.library) + 1):
                box = Box(Heir(study, lambda door, key, value: None, *doors, place=place))
                for door, items, own in self.some_calls(study, pick, "open"):
                    if not items:
                        continue
                    held = [(marks, key in box) for key, marks, _ in items]
                    trace = study.trace(Case(door, held, own))
                    first = visits(trace, place, doors)
                    if first:
                        self.raised(box.put, door, *items, own=own)
                        self.assertEqual(box.rows, trace[:first[0] + 1])
                    else:
                        box.put(door, *items, own=own)
                        self.assertEqual(box.rows, trace)

    def test_makers(self):
        made = 0
        for seed, study in enumerate(write_studies(18, 60)):
            maker, pick = Maker(study.library.text), random.Random(seed)
            for place in range(len(study.library) + 1):
                for doors in self.some_sets(study, pick):
                    for door, items, own in self.some_calls(study, pick, "make"):
                        limit = pick.choice([0, 0, 4])
                        heir = Heir(study, self.make_rule(limit), *doors, place=place)
                        real = maker.heir(place, doors, self.make_rule(limit))()
                        refused = maker.call(real, door, items, own)
                        if refused:
                            wanted = ("Refused", dict(zip(("door", "key", "value"), refused)))
                            self.assert_raises_door(wanted, Box.made, heir, door, *items, own=own)
                            continue
                        box = Box.made(heir, door, *items, own=own)
                        self.assertEqual(box.contents, contents_of(real))
                        self.assertEqual((box.journal, box.rows), (real.journal, real.rows()))
                        made += 1
        self.assertGreater(made, 100)

    def test_try_out(self):
        for seed, study in enumerate(write_studies(19, 30)):
            maker, pick = Maker(study.library.text), random.Random(seed)
            for place in range(len(study.library) + 1):
                for doors in self.some_sets(study, pick)[1:]:
                    limit = pick.choice([0, 5])
                    heir = Heir(study, self.make_rule(limit), *doors, place=place)
                    box, real = Box(heir), maker.heir(place, doors, self.make_rule(limit))()
                    for door, items, own in self.some_calls(study, pick, "open"):
                        before = [list(box.contents), list(box.journal), list(box.rows)]
                        store = dict(real.store)
                        found = try_out(box, door, *items, own=own)
                        self.assertEqual([box.contents, box.journal, box.rows], before)
                        real.journal = []
                        refused = maker.call(real, door, items, own)
                        self.assertEqual(found, (refused, contents_of(real), real.journal))
                        real.store, real.journal = store, list(before[1])
                        self.compare(maker, real, box, box.put, door, items, own)


if __name__ == "__main__":
    unittest.main()
