"""What several tests ask in the same way."""

import unittest


class Refused(unittest.TestCase):
    def refused(self, error, at, told, *things, **named):
        """The function refuses these things by this error, with this field where one is told."""
        with self.assertRaises(error) as caught:
            told(*things, **named)
        self.assertIs(type(caught.exception), error)
        if at is not None:
            self.assertEqual(caught.exception.at, at)
            self.assertNotIsInstance(caught.exception.at, bool)
