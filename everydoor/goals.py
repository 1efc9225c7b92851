"""Goals: which calls break them, and how often items are visited (points 31 to 33 and 37)."""

from everydoor.checks import check_view
from everydoor.sights import Sight, cases_of, check_goals, count_visits, goals_hold
from everydoor.traces import is_visit

HEADING = "door     takes  drop never  once  more"


def broken(study, place, doors, *goals):
    """Return the first possible case in which a goal does not hold, or None if all goals hold."""
    chosen = check_view(study.library, place, doors)
    check_goals(goals)
    for case in cases_of(study, goals):
        if not goals_hold(Sight(study, case, place), chosen, goals):
            return case
    return None


def passes(study, place, doors):
    """Return a list of (case, count): how many visits are in front of the first row `put`, or -1."""
    chosen = check_view(study.library, place, doors)
    return [(case, count_front(Sight(study, case, place), chosen)) for case in study.cases(1)]


def count_front(sight, doors):
    """Return the number of visits in front of the first row `put`, or -1 if there is none."""
    if not sight.nests:
        return -1
    return count_visits(sight.front, doors)


def leaks(study, place, doors):
    """Return a list of the (home, door) whose body puts an item in front of all visits."""
    chosen = check_view(study.library, place, doors)
    found = {}
    for case in study.cases(1):
        for row in study.trace(case):
            if is_visit(row, place, chosen):
                break
            if row[0] == "put":
                word, level, door, home, item = row
                found[home, door] = True
    names = [name for name, takes, entry in study.library.doors]
    pairs = [(home, name) for home in range(len(study.library) + 1) for name in names]
    return [pair for pair in pairs if pair in found]


def sheet(study, place, doors):
    """Return a table: for each door how often its cases put nothing, or after how many visits."""
    rows = passes(study, place, doors)
    lines = [HEADING]
    for name, takes, entry in study.library.doors:
        if entry != "inner":
            counts = [count for case, count in rows if case.door == name]
            lines.append(write_line(name, takes, counts))
    lines.append(write_line("all", "", [count for case, count in rows]))
    return "\n".join(lines)


def write_line(name, takes, counts):
    """Return the line that says how many of the counts are -1, 0, 1 and more."""
    more = len([count for count in counts if count > 1])
    numbers = [counts.count(-1), counts.count(0), counts.count(1), more]
    return f"{name:<8} {takes:<5}" + "".join([f"{number:>6}" for number in numbers])
