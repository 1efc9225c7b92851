"""The forms of bodies (point 6)."""

import re
import unittest

from everydoor.errors import BadLine, DoorError
from everydoor.library import Library
from helper import KEPT, DoorTest

HEAD = (
    "door put one open\ndoor fill many open\ndoor add one inner\ndoor load many inner\n"
    "mark text\nmark big\nclass Box\n"
)
RULES = [
    "drop", "raw", "self.add", "super.put", "raw, raw", "raw, self.fill, super.add",
    "if held then raw | drop", "if not held then drop | raw", "if text then self.add, raw | raw",
    "if not big then raw | super.put", "if held then raw, raw, raw | if not text then drop | raw",
    "if text then raw | if text then super.load, super.load | self.put",
]
HOPS = ["drop", "raw", "self.fill", "super.load, raw", "raw, raw, super.fill"]
PHASES = [f"each {rules}" for rules in RULES] + [f"all {hops}" for hops in HOPS]
NAME = "(?!(?:" + "|".join(KEPT) + ")(?![a-z]))[a-z]{1,8}(?![a-z])"
ONE_HOPS = f"(?:drop|(?:raw|(?:self|super)\\.{NAME})(?:, (?:raw|(?:self|super)\\.{NAME})){{0,2}})"
ONE_RULES = f"(?:if (?:not )?(?:held|{NAME}) then {ONE_HOPS} \\| ){{0,2}}{ONE_HOPS}"
ONE_PHASE = f"(?:all {ONE_HOPS}|each {ONE_RULES})"
ONE_PHASES = f"{ONE_PHASE}(?: ; {ONE_PHASE}){{0,2}}"
FORM = re.compile(f"{ONE_RULES}|{ONE_PHASES}|if own then {ONE_PHASES} else {ONE_PHASES}")


def edits(body):
    """Return the bodies that one small slip makes of this one."""
    found = []
    words = re.findall(r"[a-z]+|[^a-z]", body)
    for at in range(len(words)):
        front, word, back = "".join(words[:at]), words[at], "".join(words[at + 1:])
        found.append(front + back)
        found.append(front + word + word + back)
        for other in (" ", ", ", " | ", " ; ", "\t", "not ", "drop", "raw", "own", "all ", "else"):
            found.append(front + other + word + back)
            found.append(front + other + back)
    return found


class BodiesTest(DoorTest):
    def assert_form(self, door, body):
        text = f"{HEAD}  {door}: {body}"
        with self.subTest(body=body):
            self.assertEqual(Library.read(text).bodies("Box"), [(door, body)])

    def assert_no_form(self, body):
        for door in ("put", "fill"):
            self.assert_reading(f"{HEAD}  {door}: {body}", "BadLine", line=8)

    def assert_misplaced(self, door, body):
        self.assert_reading(f"{HEAD}  {door}: {body}", "Misplaced", line=8, name=door)

    def test_rules(self):
        for body in RULES:
            self.assert_form("put", body)
            self.assert_misplaced("fill", body)

    def test_phases(self):
        for body in PHASES:
            self.assert_form("fill", body)
            self.assert_misplaced("put", body)
        for body in (" ; ".join(PHASES[:2]), " ; ".join(PHASES[-3:]), " ; ".join(PHASES[5:8])):
            self.assert_form("fill", body)
            self.assert_misplaced("put", body)

    def test_own(self):
        for own, other in zip(PHASES, reversed(PHASES)):
            self.assert_form("fill", f"if own then {own} else {other}")
            self.assert_misplaced("put", f"if own then {own} else {other}")
        self.assert_form("fill", "if own then " + " else ".join([" ; ".join(PHASES[:3])] * 2))

    def test_bounds_of_hops(self):
        for start in ("", "if held then raw | ", "if held then raw | if text then drop | "):
            self.assert_form("put", start + "raw, raw, raw")
            self.assert_no_form(start + "raw, raw, raw, raw")
        self.assert_form("put", "if held then raw, raw, raw | drop")
        self.assert_no_form("if held then raw, raw, raw, raw | drop")
        self.assert_form("fill", "all raw, raw, raw")
        self.assert_no_form("all raw, raw, raw, raw")

    def test_bounds_of_tests(self):
        test = "if held then raw | "
        for front in ("", "each ", "if own then all raw else each "):
            for count in (0, 1, 2):
                self.assert_form("fill" if front else "put", front + test * count + "raw")
            self.assert_no_form(front + test * 3 + "raw")

    def test_bounds_of_phases(self):
        for count in (1, 2, 3):
            phases = " ; ".join(["all raw"] * count)
            self.assert_form("fill", phases)
            self.assert_form("fill", f"if own then {phases} else each raw")
            self.assert_form("fill", f"if own then each raw else {phases}")
        phases = " ; ".join(["all raw"] * 4)
        self.assert_no_form(phases)
        self.assert_no_form(f"if own then {phases} else each raw")
        self.assert_no_form(f"if own then each raw else {phases}")

    def test_no_forms(self):
        bodies = [
            "", "drop, raw", "raw, drop", "drop, drop", "raw,raw", "raw , raw", "raw,", ", raw",
            "raw | raw", "if held then raw", "if held then raw | ", "if held then | raw",
            "if held raw | raw", "held then raw | raw", "raw | if held then raw",
            "if held then raw|raw", "if held then raw |raw", "if not then raw | raw",
            "if not not held then raw | raw", "if then raw | raw", "if  held then raw | raw",
            "if held, text then raw | raw", "if Held then raw | raw", "if x1 then raw | raw",
            "if held then if text then raw | raw | raw", "if held then drop, raw | raw",
            "self", "self.", "self.Add", "self.a1", "self .add", "self. add", ".add", "add",
            "base.add", "super().add", "self.add.put", "selfadd", "self.abcdefghi", "Self.add",
            "all", "all ", "each", "each ", "allraw", "all raw | raw", "all if held then raw | raw",
            "each raw ; raw", "raw ; raw", "raw ; all raw", "all raw; all raw", "all raw ;all raw",
            "all raw ; ", " ; all raw", "all raw ;  ; all raw", "each raw | raw", "all all raw",
            "each each raw", "each all raw", "all each raw", "All raw", "Each raw",
            "if own then raw else raw", "if own then all raw", "if own then all raw else raw",
            "if own then raw else all raw", "if own then all raw else ", "if own then else all raw",
            "if own then  else all raw", "if own then all raw else all raw else all raw",
            "if own then all raw ; else all raw", "all raw else all raw", "if own all raw else raw",
            "if not own then all raw else all raw", "if own then all raw | all raw",
            "if held then all raw else all raw", "each if own then raw | raw",
            "if own then if own then all raw else all raw else all raw", "if own then drop | raw",
            "all raw ; if own then all raw else all raw", "ground", "raw.", "raw raw", "super",
        ]
        for body in bodies:
            self.assert_no_form(body)

    def test_slips_against_the_rules_as_a_pattern(self):
        bodies = [
            "if not text then self.add, raw, drop | if held then drop | super.put",
            "if own then all raw, self.fill ; each if big then raw | drop else all drop",
        ]
        for body in [other for start in bodies for other in [start, *edits(start)]]:
            text = f"{HEAD}  put: {body}"
            with self.subTest(body=body):
                self.assertEqual(self.has_form(text), FORM.fullmatch(body) is not None)

    def has_form(self, text):
        try:
            Library.read(text)
        except BadLine as error:
            self.assertEqual(error.line, 8)
            return False
        except DoorError:
            return True
        return True


if __name__ == "__main__":
    unittest.main()
