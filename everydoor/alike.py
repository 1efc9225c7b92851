"""Libraries compared by what heirs in front of them can see (points 41 and 42)."""

from everydoor.checks import find_door, order_doors
from everydoor.errors import Unlike
from everydoor.sets import list_sets
from everydoor.traces import is_visit


def observe(study, case, doors):
    """Return what an heir at place 0 that replaces these doors can see of the case."""
    trace = study.trace(case)
    chosen = order_doors(study.library, doors)
    takes, entry = find_door(study.library, case.door)
    store = {number: None for number, (marks, held) in enumerate(case.states) if held}
    entries = []
    # For each dispatch around the row: the numbers of the entries of its items, if it is a visit.
    path = []
    for row in trace:
        path = path[:row[1]]
        if row[0] == "put":
            store[row[-1]] = find_nest(path, row[-1])
        else:
            visited = row[-1] if is_visit(row, 0, chosen) else ()
            # The box of a maker that is refused is never seen.
            contents = () if entry == "make" else tuple(store.items())
            nests = [(item, find_nest(path, item)) for item in visited]
            path.append({item: len(entries) + at for at, item in enumerate(visited)})
            entries.extend([(row[2], item, nest, contents) for item, nest in nests])
    entries.append(("", -1, (), tuple(store.items())))
    return entries


def find_nest(path, item):
    """Return the numbers of the entries of the item on the path, the outermost first."""
    return tuple([numbers[item] for numbers in path if item in numbers])


def parting(first, second):
    """Return (doors, case) for which the libraries part, the first ones; None if they are alike."""
    check_comparable(first.library, second.library)
    every = [name for name, takes, entry in first.library.doors]
    # What can be seen by other doors can be told from what is seen by all of them.
    differing = [case for case in list_common(first, second) if differ(first, second, case, every)]
    for doors in list_sets(first.library):
        for case in differing:
            if differ(first, second, case, doors):
                return (doors, case)
    return None


def alike(first, second):
    """Return True if the libraries part for no set of doors."""
    return parting(first, second) is None


def check_comparable(one, other):
    """Raise Unlike if the libraries declare different doors or marks."""
    if one.doors != other.doors or one.marks != other.marks:
        raise Unlike()


def list_common(first, second):
    """Return the cases with one or two items that are possible in both, in the order of cases."""
    # Without an opening fewer cases are possible, with one the same for both.
    study = second if second.opening is None else first
    return list(study.cases(1)) + list(study.cases(2))


def differ(first, second, case, doors):
    """Return True if the studies differ in what such an heir can see of the case."""
    return observe(first, case, doors) != observe(second, case, doors)
