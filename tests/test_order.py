"""linearize (point 9)."""

import itertools
import unittest

from everydoor.order import linearize
from helper import DoorTest

NAMES = "ABCDE"


def made_by_python(bases, name):
    """Return the order that Python's own classes have, or None."""
    made = {}
    try:
        for key, parents in bases.items():
            made[key] = type(key, tuple(made[parent] for parent in parents), {})
    except TypeError:
        return None
    return [found.__name__ for found in made[name].__mro__[:-1]]


def base_lists(names, most):
    """Return all lists of at most so many of the names, in each order."""
    return [list(row) for size in range(most + 1) for row in itertools.permutations(names, size)]


def all_graphs(count, most):
    """Yield all dicts in which each class has bases among the ones in front of it."""
    names = NAMES[:count]
    rows = [base_lists(names[:index], most) for index in range(count)]
    for parents in itertools.product(*rows):
        yield dict(zip(names, parents))


class LinearizeTest(DoorTest):
    def assert_barred(self, bases, name, heads):
        self.assert_raises_door(("Barred", {"heads": heads}), linearize, bases, name)

    def test_examples(self):
        bases = {"A": [], "B": ["A"], "C": ["A"], "D": ["B", "C"]}
        self.assertEqual(linearize(bases, "D"), ["D", "B", "C", "A"])
        self.assert_barred({"A": [], "B": ["A"], "C": ["A", "B"]}, "C", ["A", "B"])

    def test_by_name_and_tuples(self):
        self.assertEqual(linearize(name="B", bases={"B": ("A",), "A": ()}), ["B", "A"])

    def test_one_class(self):
        self.assertEqual(linearize({"A": []}, "A"), ["A"])

    def test_a_class_in_the_middle(self):
        bases = {"A": [], "B": ["A"], "C": ["A"], "D": ["B", "C"]}
        self.assertEqual(linearize(bases, "C"), ["C", "A"])

    def test_the_known_hard_orders(self):
        bases = {
            "O": [], "A": ["O"], "B": ["O"], "C": ["O"], "D": ["O"], "E": ["O"],
            "K1": ["A", "B", "C"], "K2": ["D", "B", "E"], "K3": ["D", "A"],
            "Z": ["K1", "K2", "K3"],
        }
        self.assertEqual(linearize(bases, "Z"), "Z K1 K2 K3 D A B C E O".split())

    def test_names_are_any_strings(self):
        bases = {"": [], "a b": [""], "1": ["a b", ""]}
        self.assertEqual(linearize(bases, "1"), ["1", "a b", ""])
        self.assert_barred({"": [], "x": [""], "y": ["", "x"]}, "y", ["", "x"])

    def test_the_order_of_the_keys_means_nothing(self):
        pairs = [("A", []), ("B", ["A"]), ("C", ["A"]), ("D", ["B", "C"])]
        for row in itertools.permutations(pairs):
            self.assertEqual(linearize(dict(row), "D"), ["D", "B", "C", "A"])

    def test_like_python(self):
        for bases in itertools.chain(all_graphs(4, 3), all_graphs(5, 2)):
            last = list(bases)[-1]
            wanted = made_by_python(bases, last)
            if wanted is not None:
                self.assertEqual(linearize(bases, last), wanted)
            elif made_by_python({key: bases[key] for key in list(bases)[:-1]}, list(bases)[-2]):
                self.assertEqual(self.raised(linearize, bases, last).__class__.__name__, "Barred")

    def test_heads_of_the_lists_in_their_order(self):
        bases = {"X": [], "Y": [], "A": ["X", "Y"], "B": ["Y", "X"], "C": ["A", "B"]}
        self.assert_barred(bases, "C", ["X", "Y"])
        bases["C"] = ["B", "A"]
        self.assert_barred(bases, "C", ["Y", "X"])

    def test_heads_of_many_lists(self):
        bases = {"A": [], "B": ["A"], "C": [], "D": ["C"], "E": ["A", "C", "B", "D"]}
        self.assert_barred(bases, "E", ["A", "C", "B", "D"])

    def test_heads_where_the_merge_stops(self):
        bases = {"A": [], "B": ["A"], "F": [], "C": ["F", "A", "B"], "D": ["F", "A"]}
        self.assert_barred(bases, "C", ["A", "B"])
        self.assertEqual(linearize(bases, "D"), ["D", "F", "A"])

    def test_heads_without_duplicates(self):
        bases = {"A": [], "B": ["A"], "C": ["A"], "D": ["A", "B", "C"]}
        self.assert_barred(bases, "D", ["A", "B", "C"])

    def test_a_base_fails_before_the_class_itself(self):
        bases = {
            "X": [], "Y": [], "P": ["X"], "Q": ["Y"],
            "L": ["X", "P"], "R": ["Y", "Q"], "Z": ["L", "R"],
        }
        self.assert_barred(bases, "Z", ["X", "P"])
        bases["Z"] = ["R", "L"]
        self.assert_barred(bases, "Z", ["Y", "Q"])
        bases["Z"] = ["X", "P", "R"]
        self.assert_barred(bases, "Z", ["Y", "Q"])

    def test_a_base_of_the_first_base_fails_before_the_second_base(self):
        bases = {
            "X": [], "Y": [], "P": ["X"], "Q": ["Y"],
            "L": ["X", "P"], "M": ["L"], "R": ["Y", "Q"], "Z": ["M", "R"],
        }
        self.assert_barred(bases, "Z", ["X", "P"])

    def test_classes_that_are_no_ancestors_do_not_matter(self):
        bases = {"A": [], "B": ["A"], "C": ["A", "B"], "D": ["B"]}
        self.assertEqual(linearize(bases, "D"), ["D", "B", "A"])

    def test_the_dict_and_its_lists_stay(self):
        for last in (["B", "C"], ["A", "B"]):
            bases = {"A": [], "B": ["A"], "C": ["A"], "D": last}
            before = {key: list(row) for key, row in bases.items()}
            try:
                linearize(bases, "D").clear()
            except ValueError:
                pass
            self.assertEqual(bases, before)

    def test_results_are_new(self):
        bases = {"A": [], "B": ["A"]}
        linearize(bases, "B").append("C")
        self.assertEqual(linearize(bases, "B"), ["B", "A"])

    def test_sixteen_classes_with_four_bases(self):
        names = [f"k{index}" for index in range(16)]
        bases = {name: names[max(0, at - 4):at][::-1] for at, name in enumerate(names)}
        self.assertEqual(linearize(bases, "k15"), names[::-1])


if __name__ == "__main__":
    unittest.main()
