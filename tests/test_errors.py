"""The interface of bookcuts.errors."""

import unittest

from bookcuts import errors

NAMES = ["NoPlace", "NoCut", "NoText", "NoWord", "NoWriting", "NoRow"]


class ErrorsTest(unittest.TestCase):
    def test_any_refusal_is_a_value_error(self):
        self.assertTrue(issubclass(errors.CutError, ValueError))

    def test_each_stands_under_cut_error_and_no_other(self):
        for name in NAMES:
            kind = getattr(errors, name)
            self.assertTrue(issubclass(kind, errors.CutError), name)
            for other in NAMES:
                if other != name:
                    self.assertFalse(issubclass(kind, getattr(errors, other)), (name, other))


if __name__ == "__main__":
    unittest.main()
