"""What several tests share: the text of the examples, and catching an error with its attributes."""

import unittest

from everydoor.errors import DoorError
from everydoor.library import Library

TEXT = (
    "door set one open\ndoor update many open\ndoor check one inner\nmark text\nclass Base\n"
    "  set: if text then self.check, raw | raw\n  check: drop\nclass Box(Base)\n"
    "  update: if own then all raw else each self.set"
)
KEPT = (
    "door mark class one many open inner make if then else own held not all each drop raw self"
    " super ground"
).split()


def shown(error):
    """Return the name of the error and its attributes."""
    return (error.__class__.__name__, dict(vars(error)))


class DoorTest(unittest.TestCase):
    def raised(self, action, *values, **named):
        """Return the error of the package that the call raises."""
        with self.assertRaises(DoorError) as caught:
            action(*values, **named)
        return caught.exception

    def assert_raises_door(self, wanted, action, *values, **named):
        """`wanted` is a pair (name of the error, dict of its attributes)."""
        self.assertEqual(shown(self.raised(action, *values, **named)), wanted)

    def assert_reading(self, text, kind, **attributes):
        """Reading the text raises this error with these attributes."""
        with self.subTest(text=text):
            self.assert_raises_door((kind, attributes), Library.read, text)

    def assert_reads(self, text):
        with self.subTest(text=text):
            self.assertEqual(Library.read(text).text, text)
