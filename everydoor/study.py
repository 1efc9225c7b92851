"""Studies: possible cases, whether their walks end, and traces (points 15 to 21)."""

from everydoor.cases import Case
from everydoor.checks import check_marks, count_marks, find_door
from everydoor.errors import BadBatch, Endless, Impossible, NotOpen, TooLong
from everydoor.walks import Plan, Walk

MOST_DISPATCHES = 30


class Study:
    """A library whose walks end."""

    def __init__(self, library):
        self.library = library
        self.plan = Plan(library)
        openings = [case for case in list_cases(library, 1, 0) if try_walk(self.plan, case)]
        self.first = openings[0] if openings else None
        if openings:
            for case in list_cases(library, 1, 1):
                try_walk(self.plan, case)

    @property
    def opening(self):
        """The first case with one item that is not held whose trace has a row `put`, or None."""
        return self.first

    def cases(self, size):
        """Yield all possible cases with `size` items, in the order of cases."""
        most_held = 0 if self.first is None else size
        for held in range(most_held + 1):
            for case in list_cases(self.library, size, held):
                yield case

    def trace(self, case):
        """Return the trace of a possible case."""
        self.check_case(case)
        walk = Walk(self.plan, make_store(case))
        walk.begin(case.door, case.own, make_batch(case))
        return walk.trail

    def check_case(self, case):
        """Raise the first error of the case if it is not possible."""
        takes, entry = find_door(self.library, case.door)
        if entry == "inner":
            raise NotOpen(case.door)
        if takes == "one" and (case.own or len(case) != 1):
            raise BadBatch(case.door)
        check_marks(self.library, [marks for marks, held in case.states])
        if any([held for marks, held in case.states]):
            if entry == "make" or self.first is None:
                raise Impossible(case)


def list_cases(library, size, held):
    """Return the cases with `size` items, `held` of them held, that doors allow, in order."""
    rows = list_states(size, held, count_marks(library))
    found = []
    for door, takes, entry in library.doors:
        if allows(takes, entry, size, held):
            found.extend([Case(door, row) for row in rows])
            if takes == "many":
                found.extend([Case(door, row, True) for row in rows])
    return found


def allows(takes, entry, size, held):
    """Return True if calls from outside can bring `size` items, `held` of them held, to the door."""
    if entry == "inner":
        return False
    if takes == "one":
        return size == 1
    return entry != "make" or held == 0


def list_states(size, held, above):
    """Return all rows of `size` states, `held` of them held, with marks below `above`, in order."""
    if size == 0:
        return [[]] if held == 0 else []
    rows = []
    for marks in range(above):
        rows.extend([[(marks, False), *row] for row in list_states(size - 1, held, above)])
        rows.extend([[(marks, True), *row] for row in list_states(size - 1, held - 1, above)])
    return rows


def make_store(case):
    """Return the store before a call of the case: the numbers of the items are their keys."""
    return {number: (marks, 0) for number, (marks, held) in enumerate(case.states) if held}


def make_batch(case):
    """Return the items of the case as a walk takes them."""
    return [(number, number, marks, 0) for number, (marks, held) in enumerate(case.states)]


def try_walk(plan, case):
    """Return True if the walk of a case with one item puts it; raise if it does not end."""
    trial = Trial(plan, case)
    trial.begin(case.door, case.own, make_batch(case))
    return len(trial.trail) > trial.dispatches


class Trial(Walk):
    """A walk with one item that raises if it has no end or makes too many dispatches."""

    def __init__(self, plan, case):
        super().__init__(plan, make_store(case))
        self.case = case
        self.dispatches = 0
        self.at_work = []

    def go(self, door, start, own, batch, level):
        """Dispatch the door, if this is not one dispatch too many."""
        if self.dispatches == MOST_DISPATCHES:
            raise TooLong(self.case, self.trail)
        self.dispatches += 1
        super().go(door, start, own, batch, level)

    def execute(self, work, batch):
        """Execute the body, if it is not at work already with the same own and the same held."""
        entry = (work.home, work.door, work.own, 0 in self.store)
        # The ground needs no exception here: it dispatches nothing, so it is never met again.
        if entry in self.at_work:
            again = self.at_work[self.at_work.index(entry):]
            raise Endless(self.case, [(home, door) for home, door, own, held in again], self.trail)
        self.at_work.append(entry)
        super().execute(work, batch)
        self.at_work.pop()
