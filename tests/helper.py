"""What several tests share: texts, traces in short, and catching an error with its attributes."""

import itertools
import random
import unittest

from everydoor.cases import Case
from everydoor.errors import DoorError, Endless, TooLong
from everydoor.library import Library
from everydoor.study import Study

TEXT = (
    "door set one open\ndoor update many open\ndoor check one inner\nmark text\nclass Base\n"
    "  set: if text then self.check, raw | raw\n  check: drop\nclass Box(Base)\n"
    "  update: if own then all raw else each self.set"
)
KEPT = (
    "door mark class one many open inner make if then else own held not all each drop raw self"
    " super ground"
).split()


FORTY = 10 ** 40 - 1


def study_of(*lines):
    """Return the study of the library with these lines."""
    return Study(Library.read("\n".join(lines)))


def case_of(words):
    """Return the case that str shows so, as in `update own 0h 3`."""
    door, *rest = words.split(" ")
    own = rest[:1] == ["own"]
    states = [(int(word.strip("h")), word.endswith("h")) for word in rest[own:]]
    return Case(door, states, own)


def told(rows):
    """Return the rows in short: `1 set 0-2 own 0,1` for a dispatch, `2 set 1 puts 0` for a put."""
    words = []
    for row in rows:
        if row[0] == "put":
            words.append("{} {} {} puts {}".format(*row[1:]))
        else:
            numbers = ",".join(str(number) for number in row[6])
            words.append("{} {} {}-{}{} {}".format(*row[1:5], " own" * row[5], numbers))
    return words


class Writer:
    """Writes library texts at random, but the same ones for the same seed."""

    def __init__(self, seed):
        self.random = random.Random(seed)

    def text(self):
        pick = self.random.randrange
        self.doors = [
            ("abcdef"[at], self.random.choice(["one open", "one inner", "many open", "many open",
                                               "many inner", "many make"]))
            for at in range(2 + pick(5))]
        self.marks = ["x", "y"][:pick(3)]
        lines = [f"door {name} {kind}" for name, kind in self.doors]
        lines += [f"mark {name}" for name in self.marks]
        names = []
        for at in range(1 + pick(6)):
            many = self.random.choice([0, 1, 1, 2, 2, 3])
            bases = self.random.sample(names, min(len(names), many))
            bases = sorted(bases, reverse=True)
            names.append("KLMNOP"[at])
            lines.append(f"class {names[-1]}" + (f"({', '.join(bases)})" if bases else ""))
            for door, (name, kind) in enumerate(self.doors):
                if pick(3):
                    lines.append(f"  {name}: {self.body(door, kind)}")
        return "\n".join(lines)

    def body(self, door, kind):
        if kind.startswith("one"):
            return self.rules(door)
        if self.random.randrange(3):
            return self.phases(door)
        return f"if own then {self.phases(door)} else {self.phases(door)}"

    def phases(self, door):
        return " ; ".join(self.phase(door) for _ in range(self.random.choice([1, 1, 2, 3])))

    def phase(self, door):
        if self.random.randrange(2):
            return "each " + self.rules(door)
        return "all " + self.hops(door, "many")

    def rules(self, door):
        words = ""
        for _ in range(self.random.choice([0, 0, 1, 2])):
            test = self.random.choice(["", "not "]) + self.random.choice(["held", *self.marks])
            words += f"if {test} then {self.hops(door, '')} | "
        return words + self.hops(door, "")

    def hops(self, door, takes):
        hops = [self.hop(door, takes) for _ in range(self.random.choice([1, 1, 2, 3]))]
        return ", ".join(hops) if self.random.randrange(8) else "drop"

    def hop(self, door, takes):
        """Mostly upwards, or to a door further back, so that many walks have an end."""
        ways = ["raw", "super." + self.doors[door][0]] * 2
        for at, (name, kind) in enumerate(self.doors):
            if kind.startswith(takes):
                ways += [f"self.{name}", f"super.{name}"] if at > door else [f"super.{name}"]
                if not self.random.randrange(12):
                    ways.append(f"self.{name}")
        return self.random.choice(ways)


def write_texts(seed, many):
    """Return library texts of classes that have an order."""
    writer, texts = Writer(seed), []
    while len(texts) < many:
        text = writer.text()
        try:
            Library.read(text)
        except DoorError as why:
            assert why.__class__.__name__ == "NoOrder", text
            continue
        texts.append(text)
    return texts


def write_studies(seed, many):
    """Return studies of libraries whose walks end and whose longest traces are not all short."""
    writer, studies = Writer(seed), []
    while len(studies) < many:
        try:
            study = Study(Library.read(writer.text()))
        except (Endless, TooLong):
            continue
        except DoorError as why:
            assert why.__class__.__name__ == "NoOrder", why
            continue
        if sum(len(study.trace(case)) for case in study.cases(1)) > 40:
            studies.append(study)
    return studies


def some_cases(study, seed, sizes=(1, 2, 3, 5, 8)):
    """Return possible cases of many sizes, one for each door and own, if there are any."""
    pick, found = random.Random(seed), []
    for (door, takes, entry), own, size in itertools.product(
            study.library.doors, (False, True), sizes):
        if entry == "inner" or takes == "one" and (own or size > 1):
            continue
        may_hold = entry == "open" and study.opening is not None
        states = [(pick.randrange(1 << len(study.library.marks)), may_hold and pick.random() < 0.4)
                  for _ in range(size)]
        found.append(Case(door, states, own))
    return found


def shown(error):
    """Return the name of the error and its attributes."""
    return (error.__class__.__name__, dict(vars(error)))


class DoorTest(unittest.TestCase):
    def raised(self, action, *values, **named):
        """Return the error of the package that the call raises."""
        with self.assertRaises(DoorError) as caught:
            action(*values, **named)
        return caught.exception

    def assert_raises_door(self, wanted, action, *values, **named):
        """`wanted` is a pair (name of the error, dict of its attributes)."""
        self.assertEqual(shown(self.raised(action, *values, **named)), wanted)

    def assert_reading(self, text, kind, **attributes):
        """Reading the text raises this error with these attributes."""
        with self.subTest(text=text):
            self.assert_raises_door((kind, attributes), Library.read, text)

    def assert_reads(self, text):
        with self.subTest(text=text):
            self.assertEqual(Library.read(text).text, text)
