"""Heirs: what replaces doors at a place, and how it visits the items (points 12 and 23)."""

from everydoor.checks import check_view, order_doors
from everydoor.errors import Refused
from everydoor.walks import Walk


class Heir:
    """A class at a place that replaces doors, and asks its rule about each item it visits."""

    def __init__(self, study, rule, *doors, place=0):
        self.chosen = check_view(study.library, place, doors)
        self.study = study
        self.place = place
        self.rule = rule

    @property
    def replaced(self):
        """The doors that the heir replaces, in the order of declaration."""
        return self.chosen

    @replaced.setter
    def replaced(self, value):
        self.chosen = order_doors(self.study.library, value)

    def replace(self, *doors):
        """Replace these doors from now on; return them in the order of declaration."""
        self.replaced = doors
        return self.replaced


class HeirWalk(Walk):
    """A call on a box under an heir; what is visited is added to the list `visited`."""

    def __init__(self, heir, store, visited):
        super().__init__(heir.study.plan, store)
        # The call keeps the doors of its beginning, whatever the heir replaces later.
        self.chosen = heir.replaced
        self.place = heir.place
        self.rule = heir.rule
        self.visited = visited

    def pass_on(self, door, start, home, batch):
        """Return the batch with the values that the rule passes on, if the heir visits it."""
        if door not in self.chosen or not start <= self.place <= home:
            return batch
        passed = []
        for item in batch:
            passed.append(self.visit(door, item))
        return passed

    def visit(self, door, item):
        """Return the item with the value that the rule passes on; raise Refused if it refuses."""
        number, key, marks, value = item
        self.visited.append((door, key, value))
        answer = self.rule(door, key, value)
        if answer is None:
            raise Refused(door, key, value)
        return (number, key, marks, answer)
