"""What cases show of the goals at a place (points 29 and 30)."""

from everydoor.checks import find_door
from everydoor.errors import BadGoal
from everydoor.traces import crosses


class Sight:
    """What the trace of a case shows at a place, for all sets of doors at once.

    `front` and `behind` have an entry for each dispatch in front of the first row `put` and behind
    it: its door, or "" if it does not cross the place. The keys of `nests` are tuples of such
    entries, of the dispatches around each row `put`.
    """

    def __init__(self, study, case, place):
        takes, entry = find_door(study.library, case.door)
        self.hidden = entry == "make"
        self.size = len(case)
        self.front = []
        self.behind = []
        self.nests = {}
        path = []
        for row in study.trace(case):
            # A row of level n stands in the bodies of n dispatches, the last ones of each level.
            path = path[:row[1]]
            if row[0] == "put":
                self.nests[tuple(path)] = True
            else:
                door = row[2] if crosses(row, place) else ""
                path.append(door)
                entries = self.behind if self.nests else self.front
                entries.append(door)


def count_visits(entries, doors):
    """Return how many of the entries are visits for this set of doors."""
    return len([door for door in entries if door in doors])


def is_checked(sight, doors):
    """Return True if a visit is in front of each row `put`."""
    return not sight.nests or count_visits(sight.front, doors) > 0


def is_changed(sight, doors):
    """Return True if exactly one visit is around each row `put`."""
    return all([count_visits(nest, doors) == 1 for nest in sight.nests])


def is_noted(sight, doors):
    """Return True if there is one visit in a trace that puts, or none in another one."""
    wanted = 1 if sight.nests else 0
    return count_visits(sight.front, doors) + count_visits(sight.behind, doors) == wanted


def is_whole(sight, doors):
    """Return True if no visit is behind a row `put`, or the box of a refusal is never seen."""
    return sight.hidden or count_visits(sight.behind, doors) == 0


GOALS = {"checked": is_checked, "changed": is_changed, "noted": is_noted, "whole": is_whole}


def check_goals(goals):
    """Raise BadGoal for the first word that is no goal."""
    for goal in goals:
        if goal not in GOALS:
            raise BadGoal(goal)


def goals_hold(sight, doors, goals):
    """Return True if the case of the sight breaks none of the goals for this set of doors."""
    for goal in goals:
        # The other goals say nothing about cases with two items.
        if sight.size == 1 or goal == "whole":
            holds = GOALS[goal]
            if not holds(sight, doors):
                return False
    return True


def cases_of(study, goals):
    """Return the possible cases of which the goals speak, in the order of cases."""
    found = list(study.cases(1))
    if "whole" in goals:
        found.extend(list(study.cases(2)))
    return found
