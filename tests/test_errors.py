"""The interface: the rows of tellroads/errors.py."""

import unittest

from tellroads import errors

BELOW = ("NoNumber", "NoRoad", "Taken", "Other", "NoText")


class Errors(unittest.TestCase):
    def test_tell_error_lies_below_value_error(self):
        self.assertTrue(issubclass(errors.TellError, ValueError))

    def test_each_refusal_lies_below_tell_error(self):
        for name in BELOW:
            with self.subTest(name):
                refusal = getattr(errors, name)
                self.assertTrue(issubclass(refusal, errors.TellError))
                self.assertIsNot(refusal, errors.TellError)

    def test_none_lies_below_another(self):
        for name in BELOW:
            for other in BELOW:
                if name != other:
                    with self.subTest(name=name, other=other):
                        self.assertFalse(issubclass(getattr(errors, name), getattr(errors, other)))

    def test_each_is_raised_with_free_words(self):
        for name in BELOW + ("TellError",):
            with self.subTest(name):
                refusal = getattr(errors, name)
                with self.assertRaises(refusal):
                    raise refusal("words")
                with self.assertRaises(ValueError):
                    raise refusal()


if __name__ == "__main__":
    unittest.main()
