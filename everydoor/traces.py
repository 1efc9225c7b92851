"""What traces and the rows of boxes tell: restrictions, visits, nesting, and a judge of rows."""


def project(trace, items):
    """Return the restriction of the trace to the items, which are numbered anew (point 22)."""
    numbers = {item: number for number, item in enumerate(items)}
    rows = []
    for row in trace:
        if row[0] == "put":
            if row[-1] in numbers:
                rows.append(row[:-1] + (numbers[row[-1]],))
        else:
            left = tuple([numbers[item] for item in row[-1] if item in numbers])
            if left:
                rows.append(row[:-1] + (left,))
    return rows


def visits(trace, place, doors):
    """Return the indexes of the rows that are visits at the place of these doors (point 29)."""
    return [index for index, row in enumerate(trace) if is_visit(row, place, doors)]


def is_visit(row, place, doors):
    """Return True if the row is a dispatch of one of the doors that crosses the place."""
    return crosses(row, place) and row[2] in doors


def crosses(row, place):
    """Return True if the row is a dispatch that crosses the place (point 11)."""
    if row[0] != "go":
        return False
    word, level, door, start, home, own, items = row
    return start <= place <= home


def around(trace, index):
    """Return the indexes of the dispatches around the row with this index, the outermost first."""
    level = trace[index][1]
    found = []
    for at in range(index - 1, -1, -1):
        # All rows between a dispatch and a row of its body are as deep as this row, or deeper.
        if trace[at][1] < level:
            found.append(at)
            level = trace[at][1]
    found.reverse()
    return found


class Judge:
    """Compares rows with the traces of a study (point 21)."""

    def __init__(self, study):
        self.study = study

    def __call__(self, case, rows):
        """Return the index of the first entry that differs from the trace of the case, or -1."""
        trace = self.study.trace(case)
        for index, (row, entry) in enumerate(zip(trace, rows)):
            if not is_same(entry, row):
                return index
        return -1 if len(trace) == len(rows) else min(len(trace), len(rows))


def is_same(entry, wanted):
    """Return True if the entry, any value, is equal to what a trace has, in its kinds too."""
    if isinstance(wanted, tuple):
        return (isinstance(entry, tuple) and len(entry) == len(wanted)
                and all([is_same(part, whole) for part, whole in zip(entry, wanted)]))
    if isinstance(wanted, str):
        return isinstance(entry, str) and entry == wanted
    if not isinstance(entry, int) or isinstance(entry, bool) != isinstance(wanted, bool):
        return False
    return entry == wanted
