"""Cases: what a call can depend on (point 15)."""


class Case:
    """A door, the marks of each item with whether its key is held, and whether the call is own."""

    def __init__(self, door, states, own=False):
        self.door = door
        self.states = tuple([(marks, held) for marks, held in states])
        self.own = own

    def only(self, *numbers):
        """Return the case that has only the items with these numbers, in this order."""
        return Case(self.door, [self.states[number] for number in numbers], self.own)

    def __eq__(self, other):
        return (isinstance(other, Case) and self.door == other.door
                and self.states == other.states and self.own == other.own)

    def __len__(self):
        return len(self.states)

    def __str__(self):
        words = [self.door]
        if self.own:
            words.append("own")
        for marks, held in self.states:
            words.append(f"{marks}h" if held else f"{marks}")
        return " ".join(words)
