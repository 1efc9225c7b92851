"""What stays in a box of a batch that is refused (points 38 to 40)."""

from everydoor.checks import check_view
from everydoor.goals import broken
from everydoor.traces import is_visit


def stays(study, case, place, doors):
    """Return a list with the items that are put in front of each visit, as tuples."""
    trace = study.trace(case)
    chosen = check_view(study.library, place, doors)
    stored = {}
    found = []
    for row in trace:
        if row[0] == "put":
            word, level, door, home, item = row
            stored[item] = True
        elif is_visit(row, place, chosen):
            found.append(tuple(stored))
    return found


def torn(study, place, doors):
    """Return (case, number): the first visit behind a row `put`; None if `whole` holds."""
    case = broken(study, place, doors, "whole")
    if case is None:
        return None
    behind = [len(items) > 0 for items in stays(study, case, place, doors)]
    return (case, behind.index(True))
