"""What several tests need."""

import unittest

from helperwire.errors import WireError


def put(text, place=(0, 0)):
    return (place, place, text)


def whole(thing):
    """All that an editor or a wire shows."""
    return (thing.files(), thing.shown(), thing.told() if hasattr(thing, "told") else [])


class Refusing(unittest.TestCase):
    def assert_refuses(self, error, thing, name, *arguments):
        """It is refused with just this error, and nothing is changed by it."""
        was = whole(thing)
        with self.assertRaises(error) as caught:
            getattr(thing, name)(*arguments)
        self.assertIs(type(caught.exception), error)
        self.assertIsInstance(caught.exception, WireError)
        self.assertIsInstance(caught.exception, ValueError)
        self.assertEqual(whole(thing), was)
        return caught.exception
