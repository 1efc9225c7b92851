"""What is asked of doors, places and marks that are passed (points 8, 12 and 31)."""

from everydoor.errors import BadMarks, NoDoor, NoPlace


def find_door(library, door):
    """Return (takes, entry) of the door; raise NoDoor if it is not declared."""
    for name, takes, entry in library.doors:
        if name == door:
            return (takes, entry)
    raise NoDoor(door)


def order_doors(library, doors):
    """Return the set of doors, a tuple in the order of declaration without duplicates."""
    for door in doors:
        find_door(library, door)
    return tuple([name for name, takes, entry in library.doors if name in doors])


def check_place(library, place):
    """Raise NoPlace if the place is not from 0 to the number of classes."""
    if not 0 <= place <= len(library):
        raise NoPlace(place)


def check_view(library, place, doors):
    """Raise the first error of the place, then of the doors; return the set of doors."""
    check_place(library, place)
    return order_doors(library, doors)


def count_marks(library):
    """Return how many values marks can have: they go from 0 to one less."""
    return 1 << len(library.marks)


def check_marks(library, numbers):
    """Raise BadMarks with the first number that does not stand for marks."""
    above = count_marks(library)
    for number in numbers:
        if not 0 <= number < above:
            raise BadMarks(number)
