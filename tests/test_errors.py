"""Point 3: the errors and their subjects."""

import unittest

from gangbooks import errors
from gangbooks.errors import GangError

NAMES = ("BadShare BadAmounts BadSpan BadNote BadRow BadLine BadName BadPolicy BadHour BadEvent BadMenu "
         "BadCertificate Unknown Taken Full NotRunning NoChange NoWindow NoRoom Busy BadMove TooWide NoEvent "
         "NothingToUndo Refused").split()


class ErrorsTest(unittest.TestCase):
    def test_base_class(self):
        self.assertEqual(GangError.__bases__, (ValueError,))
        self.assertEqual(GangError.__module__, "gangbooks.errors")

    def test_each_is_directly_derived(self):
        self.assertEqual(len(set(NAMES)), 25)
        for name in NAMES:
            made = getattr(errors, name)
            self.assertEqual(made.__bases__, (GangError,), name)
            self.assertEqual(made.__module__, "gangbooks.errors")
            self.assertEqual(made.__name__, name)

    def test_each_is_made_with_its_subject(self):
        for name in ["GangError", *NAMES]:
            for subject in ("x", 7, ("machines", 3), None, (), ["a"]):
                error = getattr(errors, name)(subject)
                self.assertIs(error.subject, subject, name)

    def test_it_can_be_raised_and_caught_by_the_base_class(self):
        for name in NAMES:
            with self.assertRaises(GangError) as caught:
                raise getattr(errors, name)((1, 2))
            self.assertEqual(caught.exception.subject, (1, 2))


if __name__ == "__main__":
    unittest.main()
