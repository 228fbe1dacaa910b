"""What the test files share."""

import unittest

from gaugemiss.stretch import Stretch

BIG = 10 ** 64


class Checks(unittest.TestCase):
    def refuses(self, kind, told, call, *values, **named):
        """The call raises an error of just this class with just these attributes."""
        with self.assertRaises(kind) as caught:
            call(*values, **named)
        self.assertIs(type(caught.exception), kind)
        self.assertEqual(vars(caught.exception), told)


def stretches(*ends):
    return [Stretch(low, high) for low, high in ends]


def inside(stretch):
    """The levels of a short stretch, one by one."""
    return set(range(stretch.low, stretch.high + 1))
