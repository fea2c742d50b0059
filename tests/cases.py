"""What test cases of the program have in common."""

import unittest

from tests.samples import plain, same


class Case(unittest.TestCase):
    """A test case that can ask for refusals."""

    def refused(self, error, value, function, /, *told, **named):
        """The call raises just this error, with this very value."""
        with self.assertRaises(error) as caught:
            function(*told, **named)
        self.assertIs(type(caught.exception), error)
        self.assertTrue(same(caught.exception.value, value))

    def told(self, value, function, /, *told, **named):
        """The call tells just this, made of plain tuples, strings, integers, bools and None; twice the same."""
        for _ in range(2):
            found = function(*told, **named)
            self.assertTrue(plain(found))
            self.assertTrue(same(found, value), f"{found} in place of {value}")
