"""Sets of doors with which goals hold, and calls that rule out others (points 34 to 36)."""

from everydoor.checks import check_place
from everydoor.sights import Sight, cases_of, check_goals, goals_hold


def good_sets(study, place, *goals):
    """Return a list of all sets of doors for which all these goals hold."""
    check_place(study.library, place)
    check_goals(goals)
    good = list_sets(study.library)
    for case in cases_of(study, goals):
        sight = Sight(study, case, place)
        good = [doors for doors in good if goals_hold(sight, doors, goals)]
    return good


def least_sets(study, place, *goals):
    """Return a list of the good sets that have the fewest doors."""
    good = good_sets(study, place, *goals)
    return [doors for doors in good if len(doors) == len(good[0])]


def best_places(study, *goals):
    """Return a list of the sizes of the least sets at each place, None where there are none."""
    sizes = []
    for place in range(len(study.library) + 1):
        least = least_sets(study, place, *goals)
        sizes.append(len(least[0]) if least else None)
    return sizes


def barring(study, place, *goals):
    """Return a list of cases that bars each set smaller than the least ones, none to spare."""
    least = least_sets(study, place, *goals)
    small = list_sets(study.library)
    if least:
        small = [doors for doors in small if len(doors) < len(least[0])]
    rows = []
    for case in cases_of(study, goals):
        sight = Sight(study, case, place)
        rows.append((case, [doors for doors in small if not goals_hold(sight, doors, goals)]))
    return leave_out(rows)


def leave_out(rows):
    """Return the cases that stay of the rows (case, sets that it bars), gone through backwards."""
    counts = {}
    for case, barred in rows:
        for doors in barred:
            counts[doors] = counts.get(doors, 0) + 1
    kept = []
    for case, barred in reversed(list(rows)):
        if all([counts[doors] > 1 for doors in barred]):
            for doors in barred:
                counts[doors] -= 1
        else:
            kept.append(case)
    kept.reverse()
    return kept


def list_sets(library):
    """Return all sets of doors: fewer doors first, then by the first door that differs."""
    names = [name for name, takes, entry in library.doors]
    found = []
    for size in range(len(names) + 1):
        found.extend(choose(names, size))
    return found


def choose(names, size):
    """Return all tuples of `size` of the names that keep their order."""
    if size == 0:
        return [()]
    found = []
    for at, name in enumerate(names):
        found.extend([(name, *rest) for rest in choose(names[at + 1:], size - 1)])
    return found
