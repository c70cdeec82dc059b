"""What the test cases of several files share."""

import unittest


class Raising(unittest.TestCase):
    def raises(self, error, thing, *calls):
        """Each of the calls raises exactly this error, with exactly this value."""
        for call in calls:
            with self.assertRaises(error) as caught:
                call()
            self.assertIs(type(caught.exception), error)
            self.assertIs(caught.exception.thing, thing)
