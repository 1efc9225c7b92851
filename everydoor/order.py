"""The order of classes (point 9)."""

from everydoor.errors import Barred


def linearize(bases, name):
    """Return the order of the class `name`; raise Barred if it has none."""
    return order_of(bases, name, {})


def order_of(bases, name, known):
    """Return the order of a class; `known` keeps the orders that were found on the way."""
    if name not in known:
        rows = [order_of(bases, base, known) for base in bases[name]]
        rows.append(bases[name])
        known[name] = [name] + merge(rows)
    return known[name]


def merge(rows):
    """Return the merge of the lists, which are not changed."""
    left = [row for row in rows if row]
    merged = []
    while left:
        head = free_head(left)
        merged.append(head)
        left = without_head(left, head)
    return merged


def free_head(rows):
    """Return the first head that stands behind the front of no list."""
    for row in rows:
        if not stands_behind(row[0], rows):
            return row[0]
    raise Barred(all_heads(rows))


def stands_behind(name, rows):
    """Return True if the name stands behind the first position of a list."""
    return any([name in row[1:] for row in rows])


def without_head(rows, head):
    """Return the lists without this head, leaving out those that become empty."""
    shorter = [row[1:] if row[0] == head else row for row in rows]
    return [row for row in shorter if row]


def all_heads(rows):
    """Return the heads of the lists, in their order, each once."""
    heads = []
    for row in rows:
        if row[0] not in heads:
            heads.append(row[0])
    return heads
