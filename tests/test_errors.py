"""The refusals: what each class stands under, and what it doesn't."""

import unittest

from shimright import errors

NAMES = ("NoNumber", "NoChoice", "TooMany", "NoText", "NoName", "NoRow")
OTHER_ERRORS = (LookupError, ArithmeticError, TypeError, RuntimeError, OSError, AttributeError, UnicodeError)


class ErrorsTest(unittest.TestCase):
    def refusals(self):
        return [getattr(errors, name) for name in NAMES]

    def test_all_are_there_under_their_names(self):
        for name in NAMES + ("ShimError",):
            with self.subTest(name=name):
                found = getattr(errors, name)
                self.assertIsInstance(found, type)
                self.assertEqual(found.__name__, name)

    def test_no_two_are_one(self):
        self.assertEqual(len(set(self.refusals() + [errors.ShimError])), len(NAMES) + 1)

    def test_shim_error_stands_under_value_error(self):
        self.assertTrue(issubclass(errors.ShimError, ValueError))

    def test_each_stands_under_shim_error(self):
        for refusal in self.refusals():
            with self.subTest(refusal=refusal):
                self.assertTrue(issubclass(refusal, errors.ShimError))
                self.assertTrue(issubclass(refusal, ValueError))

    def test_none_stands_under_another_one(self):
        for one in self.refusals():
            self.assertFalse(issubclass(errors.ShimError, one))
            for other in self.refusals():
                if one is not other:
                    with self.subTest(one=one, other=other):
                        self.assertFalse(issubclass(one, other))

    def test_none_stands_under_a_further_error_of_pythons(self):
        for refusal in self.refusals() + [errors.ShimError]:
            for other in OTHER_ERRORS:
                with self.subTest(refusal=refusal, other=other):
                    self.assertFalse(issubclass(refusal, other))

    def test_value_error_itself_is_no_refusal(self):
        for refusal in self.refusals() + [errors.ShimError]:
            self.assertNotIsInstance(ValueError("words"), refusal)

    def test_each_is_raised_and_taken_as_any_refusal(self):
        for refusal in self.refusals():
            with self.subTest(refusal=refusal):
                with self.assertRaises(errors.ShimError) as caught:
                    raise refusal("words")
                self.assertIs(type(caught.exception), refusal)


if __name__ == "__main__":
    unittest.main()
