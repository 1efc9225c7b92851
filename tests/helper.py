"""What several tests share: texts, traces in short, and catching an error with its attributes."""

import itertools
import random
import re
import unittest

from everydoor.cases import Case
from everydoor.errors import DoorError, Endless, TooLong
from everydoor.library import Library
from everydoor.study import Study
from everydoor.traces import around, visits

TEXT = (
    "door set one open\ndoor update many open\ndoor check one inner\nmark text\nclass Base\n"
    "  set: if text then self.check, raw | raw\n  check: drop\nclass Box(Base)\n"
    "  update: if own then all raw else each self.set"
)
KEPT = (
    "door mark class one many open inner make if then else own held not all each drop raw self"
    " super ground"
).split()


FORTY = 10 ** 40 - 1
GOALS = ("checked", "changed", "noted", "whole")


def study_of(*lines):
    """Return the study of the library with these lines."""
    return Study(Library.read("\n".join(lines)))


def case_of(words):
    """Return the case that str shows so, as in `update own 0h 3`."""
    door, *rest = words.split(" ")
    own = rest[:1] == ["own"]
    states = [(int(word.strip("h")), word.endswith("h")) for word in rest[own:]]
    return Case(door, states, own)


def told(rows):
    """Return the rows in short: `1 set 0-2 own 0,1` for a dispatch, `2 set 1 puts 0` for a put."""
    words = []
    for row in rows:
        if row[0] == "put":
            words.append("{} {} {} puts {}".format(*row[1:]))
        else:
            numbers = ",".join(str(number) for number in row[6])
            words.append("{} {} {}-{}{} {}".format(*row[1:5], " own" * row[5], numbers))
    return words


class Writer:
    """Writes library texts at random, but the same ones for the same seed."""

    def __init__(self, seed):
        self.random = random.Random(seed)

    def text(self):
        pick = self.random.randrange
        self.doors = [
            ("abcdef"[at], self.random.choice(["one open", "one inner", "many open", "many open",
                                               "many inner", "many make"]))
            for at in range(2 + pick(5))]
        self.marks = ["x", "y"][:pick(3)]
        lines = [f"door {name} {kind}" for name, kind in self.doors]
        lines += [f"mark {name}" for name in self.marks]
        names = []
        for at in range(1 + pick(6)):
            many = self.random.choice([0, 1, 1, 2, 2, 3])
            bases = self.random.sample(names, min(len(names), many))
            bases = sorted(bases, reverse=True)
            names.append("KLMNOP"[at])
            lines.append(f"class {names[-1]}" + (f"({', '.join(bases)})" if bases else ""))
            for door, (name, kind) in enumerate(self.doors):
                if pick(3):
                    lines.append(f"  {name}: {self.body(door, kind)}")
        return "\n".join(lines)

    def body(self, door, kind):
        if kind.startswith("one"):
            return self.rules(door)
        if self.random.randrange(3):
            return self.phases(door)
        return f"if own then {self.phases(door)} else {self.phases(door)}"

    def phases(self, door):
        return " ; ".join(self.phase(door) for _ in range(self.random.choice([1, 1, 2, 3])))

    def phase(self, door):
        if self.random.randrange(2):
            return "each " + self.rules(door)
        return "all " + self.hops(door, "many")

    def rules(self, door):
        words = ""
        for _ in range(self.random.choice([0, 0, 1, 2])):
            test = self.random.choice(["", "not "]) + self.random.choice(["held", *self.marks])
            words += f"if {test} then {self.hops(door, '')} | "
        return words + self.hops(door, "")

    def hops(self, door, takes):
        hops = [self.hop(door, takes) for _ in range(self.random.choice([1, 1, 2, 3]))]
        return ", ".join(hops) if self.random.randrange(8) else "drop"

    def hop(self, door, takes):
        """Mostly upwards, or to a door further back, so that many walks have an end."""
        ways = ["raw", "super." + self.doors[door][0]] * 2
        for at, (name, kind) in enumerate(self.doors):
            if kind.startswith(takes):
                ways += [f"self.{name}", f"super.{name}"] if at > door else [f"super.{name}"]
                if not self.random.randrange(12):
                    ways.append(f"self.{name}")
        return self.random.choice(ways)


def write_texts(seed, many):
    """Return library texts of classes that have an order."""
    writer, texts = Writer(seed), []
    while len(texts) < many:
        text = writer.text()
        try:
            Library.read(text)
        except DoorError as why:
            assert why.__class__.__name__ == "NoOrder", text
            continue
        texts.append(text)
    return texts


def write_studies(seed, many):
    """Return studies of libraries whose walks end and whose longest traces are not all short."""
    writer, studies = Writer(seed), []
    while len(studies) < many:
        try:
            study = Study(Library.read(writer.text()))
        except (Endless, TooLong):
            continue
        except DoorError as why:
            assert why.__class__.__name__ == "NoOrder", why
            continue
        if sum(len(study.trace(case)) for case in study.cases(1)) > 40:
            studies.append(study)
    return studies


def vary(writer, text):
    """Return the text with one of its bodies changed, a little or all over, or with a class more."""
    pick, lines = writer.random, text.split("\n")
    rows = [line.split(" ", 2) for line in lines if line[:5] in ("door ", "mark ")]
    writer.doors = [row[1:] for row in rows if row[0] == "door"]
    writer.marks = [row[1] for row in rows if row[0] == "mark"]
    bodies = [at for at, line in enumerate(lines) if line.startswith("  ")]
    way = pick.randrange(9)
    if way == 0 or not bodies:
        last = re.findall(r"^class (\w+)", text, re.M)[-1]
        return f"{text}\nclass {last}z({last})"
    at = pick.choice(bodies)
    door, body = lines[at].strip().split(": ", 1)
    number = [row[0] for row in writer.doors].index(door)
    hops = [hop.span() for hop in re.finditer(r"raw|(self|super)[.][a-z]+", body)]
    if way == 1:
        body = writer.body(number, writer.doors[number][1])
    elif way == 2:
        body = body.replace("raw", "raw, raw", 1)
    elif way in (3, 4) and hops:
        start, end = pick.choice(hops)
        body = body[:start] + writer.hop(number, "many" * pick.randrange(2)) + body[end:]
    elif len(hops) > 1:
        (start, end), (other, last) = sorted(pick.sample(hops, 2))
        body = body[:start] + body[other:last] + body[end:other] + body[start:end] + body[last:]
    lines[at] = f"  {door}: {body}"
    return "\n".join(lines)


def write_pairs(seed, many, most_doors=6, most_marks=2):
    """Return pairs of studies whose libraries declare the same and have similar bodies."""
    writer, pairs = Writer(seed), []
    studies = [study for study in write_studies(seed, many)
               if len(study.library.doors) <= most_doors and len(study.library.marks) <= most_marks]
    while len(pairs) < many:
        study = writer.random.choice(studies)
        try:
            text = study.library.text
            for _ in range(1 + writer.random.randrange(3)):
                text = vary(writer, text)
            pairs.append((study, Study(Library.read(text))))
        except DoorError:
            continue
    return pairs


def some_cases(study, seed, sizes=(1, 2, 3, 5, 8)):
    """Return possible cases of many sizes, one for each door and own, if there are any."""
    pick, found = random.Random(seed), []
    for (door, takes, entry), own, size in itertools.product(
            study.library.doors, (False, True), sizes):
        if entry == "inner" or takes == "one" and (own or size > 1):
            continue
        may_hold = entry == "open" and study.opening is not None
        states = [(pick.randrange(1 << len(study.library.marks)), may_hold and pick.random() < 0.4)
                  for _ in range(size)]
        found.append(Case(door, states, own))
    return found


def all_sets(study):
    """Return all sets of doors in the order of point 34, which is that of itertools."""
    names = [name for name, _, _ in study.library.doors]
    return [doors for size in range(len(names) + 1) for doors in itertools.combinations(names, size)]


def all_places(study):
    return range(len(study.library) + 1)


class KeptTraces:
    """A study that keeps its traces, so that a plain search can ask for each of them often."""

    def __init__(self, study):
        self.study, self.library, self.cases, self.known = study, study.library, study.cases, {}

    def trace(self, case):
        name = str(case)
        if name not in self.known:
            self.known[name] = tuple(self.study.trace(case))
        return self.known[name]


def plain_goal(study, case, place, doors, goal):
    """Return True if the goal holds in the case, as points 29 and 30 say it."""
    trace = study.trace(case)
    seen = visits(trace, place, doors)
    puts = [index for index, row in enumerate(trace) if row[0] == "put"]
    if goal == "whole":
        made = (case.door, "many", "make") in study.library.doors
        return made or not any(put < at for put in puts for at in seen)
    assert len(case) == 1
    if goal == "checked":
        return all(any(at < put for at in seen) for put in puts)
    if goal == "changed":
        return all(len(set(seen) & set(around(trace, put))) == 1 for put in puts)
    assert goal == "noted"
    return len(seen) == (1 if puts else 0)


def plain_breaks(study, place, doors, goals):
    """Return the cases, in their order, in which one of the goals does not hold."""
    found = [case for case in study.cases(1)
             if not all(plain_goal(study, case, place, doors, goal) for goal in goals)]
    if "whole" in goals:
        found += [case for case in study.cases(2)
                  if not plain_goal(study, case, place, doors, "whole")]
    return found


def shown(error):
    """Return the name of the error and its attributes."""
    return (error.__class__.__name__, dict(vars(error)))


class DoorTest(unittest.TestCase):
    def raised(self, action, *values, **named):
        """Return the error of the package that the call raises."""
        with self.assertRaises(DoorError) as caught:
            action(*values, **named)
        return caught.exception

    def assert_raises_door(self, wanted, action, *values, **named):
        """`wanted` is a pair (name of the error, dict of its attributes)."""
        self.assertEqual(shown(self.raised(action, *values, **named)), wanted)

    def assert_reading(self, text, kind, **attributes):
        """Reading the text raises this error with these attributes."""
        with self.subTest(text=text):
            self.assert_raises_door((kind, attributes), Library.read, text)

    def assert_reads(self, text):
        with self.subTest(text=text):
            self.assertEqual(Library.read(text).text, text)
