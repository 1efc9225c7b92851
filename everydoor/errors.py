"""The errors of the package; each keeps what it tells of in its attributes."""


class DoorError(ValueError):
    """The base class of all errors that the package raises."""


class BadLine(DoorError):
    """A line of a library text has none of the forms that may stand there."""

    def __init__(self, line):
        super().__init__(f"line {line} has none of the forms that may stand there")
        self.line = line


class Taken(DoorError):
    """A name is declared, listed or given a body a second time."""

    def __init__(self, line, name):
        super().__init__(f"line {line}: {name} is taken already")
        self.line = line
        self.name = name


class Unknown(DoorError):
    """A name is used that is not declared."""

    def __init__(self, line, name):
        super().__init__(f"line {line}: {name} is not declared")
        self.line = line
        self.name = name


class Misplaced(DoorError):
    """A door does not take what stands there."""

    def __init__(self, line, name):
        super().__init__(f"line {line}: {name} does not take what stands there")
        self.line = line
        self.name = name


class NoOrder(DoorError):
    """A class of a library text has no order."""

    def __init__(self, line, name, heads):
        super().__init__(f"line {line}: the class {name} has no order")
        self.line = line
        self.name = name
        self.heads = list(heads)


class Barred(DoorError):
    """A merge of orders cannot go on: each head stands behind another one."""

    def __init__(self, heads):
        super().__init__("each head stands behind the front of a list")
        self.heads = list(heads)


class NoDoor(DoorError):
    """A door is not declared."""

    def __init__(self, door):
        super().__init__(f"no door is called {door}")
        self.door = door


class NoClass(DoorError):
    """The text has no class of this name."""

    def __init__(self, name):
        super().__init__(f"no class is called {name}")
        self.name = name


class NoPlace(DoorError):
    """A place is not from 0 to the number of classes."""

    def __init__(self, place):
        super().__init__(f"{place} is no place")
        self.place = place


class NotOpen(DoorError):
    """A call from outside is made of a door that does not allow it."""

    def __init__(self, door):
        super().__init__(f"the door {door} is not called so from outside")
        self.door = door


class BadBatch(DoorError):
    """A batch does not suit its door."""

    def __init__(self, door):
        super().__init__(f"the batch does not suit the door {door}")
        self.door = door


class BadMarks(DoorError):
    """A number does not stand for marks."""

    def __init__(self, number):
        super().__init__(f"{number} does not stand for marks")
        self.number = number


class Impossible(DoorError):
    """A case is not possible."""

    def __init__(self, case):
        super().__init__(f"the case is not possible: {case}")
        self.case = case


class TooLong(DoorError):
    """A walk makes too many dispatches."""

    def __init__(self, case, trail):
        super().__init__(f"the walk is too long: {case}")
        self.case = case
        self.trail = list(trail)


class Endless(DoorError):
    """A walk has no end."""

    def __init__(self, case, ring, trail):
        super().__init__(f"the walk has no end: {case}")
        self.case = case
        self.ring = [tuple(pair) for pair in ring]
        self.trail = list(trail)


class NoOpening(DoorError):
    """The library has no opening."""

    def __init__(self):
        super().__init__("the library has no opening")


class Missing(DoorError):
    """A key is not in the store."""

    def __init__(self, key):
        super().__init__(f"the key {key} is not held")
        self.key = key


class Refused(DoorError):
    """The rule of an heir refuses an item."""

    def __init__(self, door, key, value):
        super().__init__(f"{door} refuses the key {key} with the value {value}")
        self.door = door
        self.key = key
        self.value = value


class BadGoal(DoorError):
    """A word is no goal."""

    def __init__(self, goal):
        super().__init__(f"{goal} is no goal")
        self.goal = goal


class Unlike(DoorError):
    """Two libraries declare different doors or marks."""

    def __init__(self):
        super().__init__("the libraries declare different doors or marks")
