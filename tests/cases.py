"""What several tests ask in the same way."""

import unittest

from nameagain.errors import Nothing


def told_of(house):
    """All that a house tells of how it stands now."""
    names = house.names()
    return house.day(), names, [house.lot(name) for name in range(len(names))], len(house)


def story(house):
    """All that a house tells now, and behind each deed that can be taken back, the last one first."""
    twin = house.twin()
    rows = [told_of(twin)]
    while True:
        try:
            twin.back()
        except Nothing:
            return rows
        rows.append(told_of(twin))


class Refused(unittest.TestCase):
    def refused_by(self, error, field, worth, told, *things, **named):
        """The function refuses these things by this error, with this field where one is told."""
        with self.assertRaises(error) as caught:
            told(*things, **named)
        self.assertIs(type(caught.exception), error)
        if field is not None:
            found = getattr(caught.exception, field)
            self.assertEqual(found, worth)
            self.assertIs(type(found), type(worth))

    def refused(self, error, at, told, *things, **named):
        """The same of an error with the field at, or of one without a field."""
        self.refused_by(error, None if at is None else "at", at, told, *things, **named)

    def keeps_still(self, house, error, field, worth, told, *things, **named):
        """A house refuses a deed, and stands as it stood, with all deeds that can be taken back."""
        twin, ahead = house.twin(), story(house)
        self.refused_by(error, field, worth, told, *things, **named)
        self.assertTrue(house == twin)
        self.assertEqual(story(house), ahead)
