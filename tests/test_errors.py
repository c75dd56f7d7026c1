"""0.4 and the interface: the classes of refusals."""

import unittest

from layfaces import errors

NAMES = [
    "NoStack", "NoNumber", "NoPart", "NoLot", "NoRow", "NoOrder", "NoNames",
    "NoRim", "NoTaking", "NoText", "NoLine", "NoDeed", "TooGreat",
]


class TestErrors(unittest.TestCase):
    def test_lay_error_stands_under_value_error(self):
        self.assertEqual(errors.LayError.__bases__, (ValueError,))

    def test_each_stands_straight_under_lay_error(self):
        for name in NAMES:
            with self.subTest(name=name):
                self.assertEqual(getattr(errors, name).__bases__, (errors.LayError,))

    def test_there_are_no_others(self):
        classes = [name for name, thing in vars(errors).items() if isinstance(thing, type)]
        self.assertEqual(sorted(classes), sorted(NAMES + ["LayError"]))

    def test_each_is_defined_in_its_file(self):
        for name in NAMES + ["LayError"]:
            self.assertEqual(getattr(errors, name).__module__, "layfaces.errors")

    def test_each_is_caught_as_lay_error_and_value_error(self):
        for name in NAMES[:-1]:
            for caught in (errors.LayError, ValueError):
                with self.subTest(name=name), self.assertRaises(caught):
                    raise getattr(errors, name)("words")

    def test_too_great_is_made_with_many_and_most(self):
        for many, most in [(10, 9), (70, 12), (9, 8)]:
            error = errors.TooGreat(many, most)
            self.assertEqual((error.many, error.most), (many, most))
            with self.assertRaises(errors.LayError):
                raise error

    def test_too_great_takes_just_two(self):
        for given in [(), (1,), (1, 2, 3)]:
            with self.assertRaises(TypeError):
                errors.TooGreat(*given)

    def test_two_too_greats_have_fields_of_their_own(self):
        one = errors.TooGreat(10, 9)
        errors.TooGreat(13, 12)
        self.assertEqual((one.many, one.most), (10, 9))


if __name__ == "__main__":
    unittest.main()
