"""Walks: how bodies are executed and what rows they leave (points 10, 11, 14 and 16).

An item on its way is a tuple (number, key, marks, value), and a batch is a list of items. Items are
never changed: a visit makes new ones, so a body that goes on behind a dispatch still has its own.
"""

from everydoor.grammar import parse_body

GROUND_BODIES = {"one": "raw", "many": "all raw"}


class Plan:
    """What walks need of a library: where each dispatch lands, and what is executed there."""

    def __init__(self, library):
        self.ground = len(library)
        self.bits = {name: 1 << index for index, name in enumerate(library.marks)}
        self.homes = {}
        self.branches = {}
        for door, takes, entry in library.doors:
            for start in range(self.ground + 1):
                self.homes[door, start] = library.dispatch(door, start)[0]
            self.branches[self.ground, door] = read_branches(GROUND_BODIES[takes])
        for home, name in enumerate(library.order):
            for door, body in library.bodies(name):
                self.branches[home, door] = read_branches(body)


def read_branches(body):
    """Return the branches of a body that has been read before, so that no line can be wrong."""
    takes, branches = parse_body(body, 0)
    return branches


class Work:
    """A body at work: its door and position, whether it is own, and the level of its rows."""

    def __init__(self, door, home, own, level):
        self.door = door
        self.home = home
        self.own = own
        self.level = level


class Walk:
    """A call that is executed: it writes into the store that it is given, and keeps its rows."""

    def __init__(self, plan, store):
        self.plan = plan
        self.store = store
        self.trail = []

    def begin(self, door, own, batch):
        """Make the call from outside; a call with an empty batch does nothing."""
        if len(batch) > 0:
            self.go(door, 0, own, batch, 0)

    def go(self, door, start, own, batch, level):
        """Dispatch the door from the position `start`."""
        home = self.plan.homes[door, start]
        numbers = tuple([number for number, key, marks, value in batch])
        self.trail.append(("go", level, door, start, home, own, numbers))
        passed = self.pass_on(door, start, home, batch)
        self.execute(Work(door, home, own, level + 1), passed)

    def pass_on(self, door, start, home, batch):
        """Return the batch that the body gets; a walk under an heir lets it visit the items."""
        return batch

    def execute(self, work, batch):
        """Execute the body with the batch."""
        branches = self.plan.branches[work.home, work.door]
        phases = branches[0] if work.own else branches[-1]
        for phase, rules in phases:
            if phase == "all":
                self.follow(work, rules[0][1], batch, work.own)
            else:
                for item in batch:
                    self.follow(work, self.choose_hops(rules, item), [item], False)

    def choose_hops(self, rules, item):
        """Return the hops behind the first test that holds; the last rule has no test."""
        for test, hops in rules[:-1]:
            if self.holds(test, item):
                return hops
        return rules[-1][1]

    def holds(self, test, item):
        """Return True if the test holds for the item at this moment."""
        word, wanted = test
        number, key, marks, value = item
        if word == "held":
            return (key in self.store) == wanted
        return (marks & self.plan.bits[word] > 0) == wanted

    def follow(self, work, hops, batch, own):
        """Execute the hops of a body from left to right; what they dispatch is `own` or not."""
        for way, door in hops:
            if way == "raw":
                self.put_each(work, batch)
            else:
                start = 0 if way == "self" else work.home + 1
                self.go(door, start, own, batch, work.level)

    def put_each(self, work, batch):
        """Put each item of the batch."""
        for number, key, marks, value in batch:
            self.store[key] = (marks, value)
            self.trail.append(("put", work.level, work.door, work.home, number))
