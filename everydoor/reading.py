"""Reading a library text line by line, with its errors in their order (points 5 and 7)."""

from everydoor.errors import BadLine, Barred, Misplaced, NoOrder, Taken, Unknown
from everydoor.grammar import list_uses, parse_body
from everydoor.names import is_class_name, is_plain_name
from everydoor.order import linearize

MOST_MARKS = 2
MOST_CLASSES = 6
MOST_BASES = 3
KINDS = ("one open", "one inner", "many open", "many inner", "many make")


class Draft:
    """What the lines that were read so far declare."""

    def __init__(self, most_doors):
        self.most_doors = most_doors
        self.door_rows = []
        self.takes = {}
        self.mark_names = []
        self.parents = {}
        self.written = {}
        self.latest = None


def read_draft(text, most_doors):
    """Return what the lines of the text declare; the first line with an error raises."""
    draft = Draft(most_doors)
    lines = text.split("\n")
    for at, line in enumerate(lines, start=1):
        read_line(draft, line, at)
    if draft.latest is None:
        raise BadLine(len(lines) + 1)
    return draft


def read_line(draft, line, at):
    """Add to the draft what the line with the number `at` declares."""
    if line.startswith("door "):
        read_door(draft, line, at)
    elif line.startswith("mark "):
        read_mark(draft, line, at)
    elif line.startswith("class "):
        read_class(draft, line, at)
    elif line.startswith("  "):
        read_body(draft, line, at)
    else:
        raise BadLine(at)


def read_door(draft, line, at):
    """Add the door that the line declares."""
    words = line.split(" ")
    if draft.mark_names or draft.parents or len(draft.takes) >= draft.most_doors:
        raise BadLine(at)
    if len(words) != 4 or not is_plain_name(words[1]) or " ".join(words[2:]) not in KINDS:
        raise BadLine(at)
    name, takes, entry = words[1:]
    check_new(draft, name, at)
    draft.door_rows.append((name, takes, entry))
    draft.takes[name] = takes


def read_mark(draft, line, at):
    """Add the mark that the line declares."""
    name = line[len("mark "):]
    if not draft.takes or draft.parents or len(draft.mark_names) >= MOST_MARKS:
        raise BadLine(at)
    if not is_plain_name(name):
        raise BadLine(at)
    check_new(draft, name, at)
    draft.mark_names.append(name)


def check_new(draft, name, at):
    """Raise Taken if a door or a mark has this name."""
    if name in draft.takes or name in draft.mark_names:
        raise Taken(at, name)


def read_class(draft, line, at):
    """Add the class that the line declares."""
    if not draft.takes or len(draft.parents) >= MOST_CLASSES:
        raise BadLine(at)
    name, bases = parse_heading(line[len("class "):], at)
    if name in draft.parents:
        raise Taken(at, name)
    check_bases(draft, bases, at)
    draft.parents[name] = bases
    draft.written[name] = {}
    draft.latest = name
    try:
        linearize(draft.parents, name)
    except Barred as why:
        raise NoOrder(at, name, why.heads) from why


def parse_heading(words, at):
    """Return (name, bases) of the words behind `class `; raise BadLine if they have no form."""
    name, mark, rest = words.partition("(")
    bases = []
    if mark:
        if not rest.endswith(")"):
            raise BadLine(at)
        bases = rest[:-1].split(", ")
    if len(bases) > MOST_BASES or not all([is_class_name(word) for word in [name, *bases]]):
        raise BadLine(at)
    return (name, bases)


def check_bases(draft, bases, at):
    """Raise the error of the first base that is unknown or stands there a second time."""
    for index, base in enumerate(bases):
        if base not in draft.parents:
            raise Unknown(at, base)
        if base in bases[:index]:
            raise Taken(at, base)


def read_body(draft, line, at):
    """Add the body that the line writes to the latest class."""
    door, colon, body = line[len("  "):].partition(": ")
    if draft.latest is None or not is_plain_name(door):
        raise BadLine(at)
    takes, branches = parse_body(body, at)
    check_door(draft, door, takes, at)
    for use, name in list_uses(branches):
        check_use(draft, use, name, at)
    draft.written[draft.latest][door] = body


def check_door(draft, door, takes, at):
    """Raise the error of the door of a body that is written for what `takes` says."""
    if door not in draft.takes:
        raise Unknown(at, door)
    if door in draft.written[draft.latest]:
        raise Taken(at, door)
    if draft.takes[door] != takes:
        raise Misplaced(at, door)


def check_use(draft, use, name, at):
    """Raise the error of a mark in a test or of a door in a hop."""
    if name not in (draft.mark_names if use == "mark" else draft.takes):
        raise Unknown(at, name)
    if use == "all" and draft.takes[name] == "one":
        raise Misplaced(at, name)
