"""What tests of several sections check alike."""

import unittest


class Case(unittest.TestCase):

    def refuse(self, error, value, function, *given):
        """A call raises just this error, with this very value."""
        with self.subTest(function.__name__, given=given):
            with self.assertRaises(error) as caught:
                function(*given)
            self.assertIs(type(caught.exception), error)
            self.assertIs(caught.exception.value, value)
