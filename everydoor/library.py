"""Libraries: containers as their texts describe them (points 4 to 8, 10 and 11)."""

from everydoor.errors import NoClass, NoDoor, NoPlace
from everydoor.names import is_plain_name
from everydoor.order import linearize
from everydoor.reading import read_draft


class Library:
    """The container of the last class of a library text."""

    MOST_DOORS = 6

    def __init__(self, text, draft):
        self.source = text
        self.door_rows = tuple(draft.door_rows)
        self.takes = draft.takes
        self.mark_names = tuple(draft.mark_names)
        self.parents = draft.parents
        self.written = draft.written
        self.sequence = tuple(linearize(draft.parents, draft.latest))

    @classmethod
    def read(cls, text):
        """Return the library of the text; the first line with an error raises."""
        return cls(text, read_draft(text, cls.MOST_DOORS))

    @staticmethod
    def is_name(word):
        """Return True if the word is the name of a door or a mark."""
        return is_plain_name(word)

    @property
    def text(self):
        """The text."""
        return self.source

    @property
    def doors(self):
        """A list of tuples (name, takes, entry) in the order of declaration."""
        return list(self.door_rows)

    @property
    def marks(self):
        """A list of the marks in the order of declaration."""
        return list(self.mark_names)

    @property
    def classes(self):
        """A list of all classes in the order of the text."""
        return list(self.parents)

    @property
    def order(self):
        """A list of the classes in the order of the last one."""
        return list(self.sequence)

    def bases(self, name):
        """Return the bases of the class as declared."""
        self.check_class(name)
        return list(self.parents[name])

    def bodies(self, name):
        """Return a list of tuples (door, body) in the order of the text."""
        self.check_class(name)
        return list(self.written[name].items())

    def check_class(self, name):
        """Raise NoClass if the text has no class of this name."""
        if name not in self.parents:
            raise NoClass(name)

    def dispatch(self, door, start=0):
        """Return (home, places): where the dispatch lands, and what it crosses."""
        if door not in self.takes:
            raise NoDoor(door)
        if not 0 <= start <= len(self.sequence):
            raise NoPlace(start)
        home = start
        while home < len(self.sequence) and door not in self.written[self.sequence[home]]:
            home += 1
        return (home, list(range(start, home + 1)))

    def __eq__(self, other):
        return isinstance(other, Library) and self.source == other.source

    def __len__(self):
        return len(self.sequence)

    def __iter__(self):
        return iter(self.sequence)

    def __str__(self):
        return str(self.source)
