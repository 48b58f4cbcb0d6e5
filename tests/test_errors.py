"""Point [1] and the part "stepswithin/errors.py" of the interface: the errors."""

import unittest

from stepswithin import errors

ONE_VALUE = ("BadNumber", "BadStep", "BadParameter", "BadIndex", "Unlike")
ONE_PLACE = ("BadRow", "BadDeed")
NOTHING = ("NoRow", "NothingBack")


class Errors(unittest.TestCase):
    def test_step_error_is_directly_beneath_value_error(self):
        self.assertEqual(errors.StepError.__bases__, (ValueError,))

    def test_each_error_is_directly_beneath_step_error(self):
        names = (*ONE_VALUE, *ONE_PLACE, *NOTHING, "BadText", "TooGreat")
        for name in names:
            with self.subTest(name=name):
                self.assertEqual(getattr(errors, name).__bases__, (errors.StepError,))
        beneath = [one for one in vars(errors).values() if isinstance(one, type) and one is not errors.StepError]
        self.assertEqual(len(beneath), len(names))

    def test_arguments_are_attributes(self):
        for value in (5, (), (3,), "word", None, [1, 2], 10 ** 60, True):
            for name in ONE_VALUE:
                self.assertIs(getattr(errors, name)(value).value, value)
                self.assertIs(getattr(errors, name)(value=value).value, value)
            for name in ONE_PLACE:
                self.assertIs(getattr(errors, name)(value).place, value)
                self.assertIs(getattr(errors, name)(place=value).place, value)
            self.assertIs(errors.TooGreat(value).most, value)
            self.assertIs(errors.TooGreat(most=value).most, value)
            self.assertEqual((errors.BadText(value, 7).line, errors.BadText(7, value).word), (value, value))
            self.assertEqual((errors.BadText(word=value, line=7).line), 7)

    def test_errors_without_arguments(self):
        for name in NOTHING:
            self.assertEqual(vars(getattr(errors, name)()), {})

    def test_wrong_numbers_of_arguments(self):
        for name in (*ONE_VALUE, *ONE_PLACE, "TooGreat"):
            with self.assertRaises(TypeError):
                getattr(errors, name)()
        with self.assertRaises(TypeError):
            errors.BadText(1)


if __name__ == "__main__":
    unittest.main()
