"""Cases (point 15)."""

import unittest

from everydoor.cases import Case


class CaseTest(unittest.TestCase):
    def test_example(self):
        case = Case("update", [(0, True), (3, False)], own=True)
        self.assertEqual(
            [str(case), str(case.only(1)), len(case)], ["update own 0h 3", "update own 3", 2])

    def test_attributes(self):
        case = Case("update", [(0, True), (3, False)], True)
        self.assertEqual(case.door, "update")
        self.assertEqual(case.states, ((0, True), (3, False)))
        self.assertIsInstance(case.states, tuple)
        self.assertIs(case.own, True)

    def test_own_left_out(self):
        self.assertIs(Case("set", [(0, False)]).own, False)
        self.assertIs(Case("set", [(0, False)], False).own, False)

    def test_by_name(self):
        case = Case(own=True, states=[(1, False)], door="set")
        self.assertEqual(case, Case("set", [(1, False)], True))

    def test_tuples_and_lists(self):
        wanted = ((0, True), (3, False))
        for states in ([[0, True], (3, False)], ([0, True], [3, False]), wanted):
            case = Case("update", states)
            self.assertEqual(case.states, wanted)
            self.assertEqual([pair.__class__ for pair in case.states], [tuple, tuple])

    def test_states_are_copied(self):
        states = [[0, True], [3, False]]
        case = Case("update", states)
        states[0][0] = 7
        states.pop()
        self.assertEqual(case.states, ((0, True), (3, False)))

    def test_any_door_and_any_marks(self):
        case = Case("no Door", [(-1, False), (10 ** 39, True)])
        self.assertEqual(str(case), "no Door -1 1" + "0" * 39 + "h")
        self.assertEqual(Case("", [(0, False)]).door, "")

    def test_only(self):
        case = Case("update", [(0, True), (1, False), (2, True)], own=True)
        self.assertEqual(case.only(2, 0), Case("update", [(2, True), (0, True)], own=True))
        self.assertEqual(case.only(0, 1, 2), case)
        self.assertEqual(case.states, ((0, True), (1, False), (2, True)))
        self.assertEqual(Case("set", [(1, True)]).only(0), Case("set", [(1, True)]))

    def test_str(self):
        self.assertEqual(str(Case("set", [(0, False)])), "set 0")
        self.assertEqual(str(Case("set", [(2, True)])), "set 2h")
        self.assertEqual(str(Case("put", [(2, True), (3, False)], own=True)), "put own 2h 3")

    def test_len(self):
        for size in (1, 2, 8):
            self.assertEqual(len(Case("update", [(0, False)] * size)), size)

    def test_equal(self):
        case = Case("update", [(0, True), (3, False)], own=True)
        self.assertTrue(case == Case("update", ([0, True], [3, False]), True))
        self.assertFalse(case != Case("update", ([0, True], [3, False]), True))

    def test_unequal(self):
        case = Case("update", [(0, True), (3, False)], own=True)
        others = [
            Case("extend", case.states, True), Case("update", case.states),
            Case("update", [(3, False), (0, True)], True), Case("update", [(0, True)], True),
            Case("update", [(1, True), (3, False)], True),
            Case("update", [(0, True), (3, True)], True),
        ]
        for other in others:
            self.assertFalse(case == other)
            self.assertTrue(case != other)

    def test_unequal_to_other_values(self):
        class Twin:
            def __init__(self):
                self.door, self.states, self.own = "set", ((0, False),), False

            def __eq__(self, other):
                return True

        case = Case("set", [(0, False)])
        for other in (None, "set 0", 1, ("set", ((0, False),), False), [], Twin()):
            self.assertFalse(case == other)
            self.assertTrue(case != other)


if __name__ == "__main__":
    unittest.main()
