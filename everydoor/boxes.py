"""Boxes: containers of a library under an heir, and the calls on them (points 24 to 28)."""

from everydoor.checks import check_marks, find_door
from everydoor.errors import BadBatch, Missing, NoOpening, NotOpen, Refused
from everydoor.heirs import HeirWalk


class Box:
    """A container with an heir in it: its store, its journal and the rows of its last call."""

    def __init__(self, heir):
        self.heir = heir
        self.store = {}
        self.visited = []
        self.latest = []

    @classmethod
    def made(cls, heir, door, *items, own=False):
        """Return a new box after a call of a door that is `make`."""
        box = cls(heir)
        box.call("make", door, items, own)
        return box

    @classmethod
    def holding(cls, heir, *pairs):
        """Return a new box that the opening has filled with the pairs (key, value)."""
        box = cls(heir)
        if len(pairs) > 0:
            opening = heir.study.opening
            if opening is None:
                raise NoOpening()
            check_keys(opening.door, pairs)
            box.fill(opening, pairs)
            box.visited = []
            box.latest = []
        return box

    def put(self, door, *items, own=False):
        """Make a call of a door that is `open`; return the number of rows `put`."""
        self.call("open", door, items, own)
        return len([row for row in self.latest if row[0] == "put"])

    def fill(self, opening, pairs):
        """Make the calls of the opening that bring the pairs into this box, which is new."""
        takes, entry = find_door(self.heir.study.library, opening.door)
        marks, held = opening.states[0]
        batch = [(key, marks, value) for key, value in pairs]
        calls = [batch] if takes == "many" else [[item] for item in batch]
        for items in calls:
            self.call(entry, opening.door, items, opening.own)

    def call(self, entry, door, items, own):
        """Make a call of a door that must have this entry."""
        check_call(self.heir.study.library, entry, door, items, own)
        batch = [(number, key, marks, value) for number, (key, marks, value) in enumerate(items)]
        walk = HeirWalk(self.heir, self.store, self.visited)
        # The rows are kept before the call begins, so that they stay if it is refused.
        self.latest = walk.trail
        walk.begin(door, own, batch)

    @property
    def contents(self):
        """A list of tuples (key, marks, value) in the order of the store."""
        return [(key, marks, value) for key, (marks, value) in self.store.items()]

    @property
    def journal(self):
        """A list of tuples (door, key, value), one for each item that was visited."""
        return list(self.visited)

    @property
    def rows(self):
        """A list of the rows of the last call."""
        return list(self.latest)

    def __setitem__(self, at, worth):
        marks, value = worth
        self.put("set", (at, marks, value))

    def __ior__(self, other):
        self.put("update", *other)
        return self

    def __iadd__(self, other):
        self.put("extend", *other)
        return self

    def __contains__(self, x):
        return x in self.store

    def __len__(self):
        return len(self.store)

    def __getitem__(self, at):
        if at not in self.store:
            raise Missing(at)
        return self.store[at]

    def __iter__(self):
        return iter(self.store)

    def __eq__(self, other):
        return isinstance(other, Box) and self.store == other.store


def check_call(library, entry, door, items, own):
    """Raise the first error of a call of a door that must have this entry (point 25)."""
    takes, declared = find_door(library, door)
    if declared != entry:
        raise NotOpen(door)
    if takes == "one" and (own or len(items) != 1):
        raise BadBatch(door)
    check_keys(door, items)
    check_marks(library, [marks for key, marks, value in items])


def check_keys(door, rows):
    """Raise BadBatch if two rows have the same key, which stands first in them."""
    if len(set([row[0] for row in rows])) < len(rows):
        raise BadBatch(door)


def try_out(box, door, *items, own=False):
    """Return what the call would do: (refused, contents, visits); the box stays as it was."""
    trial = Box(box.heir)
    trial.store = dict(box.store)
    refused = None
    try:
        trial.put(door, *items, own=own)
    except Refused as why:
        refused = (why.door, why.key, why.value)
    return (refused, trial.contents, trial.journal)
