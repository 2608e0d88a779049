"""The refusals: selfword/errors.py."""

import unittest

from selfword.errors import NoText, NoTree, SelfError


class Errors(unittest.TestCase):

    def test_made_with_nothing(self):
        for error in (NoTree(), NoText()):
            self.assertIsInstance(error, SelfError)
            self.assertIsInstance(error, ValueError)

    def test_self_error_is_a_value_error(self):
        self.assertTrue(issubclass(SelfError, ValueError))
        self.assertIsNot(SelfError, ValueError)

    def test_neither_beneath_the_other(self):
        self.assertNotIsInstance(NoTree(), NoText)
        self.assertNotIsInstance(NoText(), NoTree)

    def test_both_beneath_self_error_alone(self):
        for kind in (NoTree, NoText):
            self.assertTrue(issubclass(kind, SelfError))
            self.assertFalse(issubclass(SelfError, kind))

    def test_raised_and_taken(self):
        for kind in (NoTree, NoText):
            for taken in (kind, SelfError, ValueError):
                with self.assertRaises(taken):
                    raise kind()
