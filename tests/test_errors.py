"""The refusals, as the interface of DOC.md lists them."""

import unittest

from readyfire import errors

REFUSALS = (
    "NoPlan",
    "NoTurn",
    "NoPlace",
    "NoValue",
    "TokenThere",
    "NoStep",
    "Fired",
    "NotReady",
    "IsReady",
    "NoText",
)


class ErrorsTest(unittest.TestCase):
    def test_fire_error_stands_right_under_value_error(self):
        self.assertEqual(errors.FireError.__bases__, (ValueError,))

    def test_each_refusal_stands_right_under_fire_error(self):
        for name in REFUSALS:
            with self.subTest(name):
                self.assertEqual(getattr(errors, name).__bases__, (errors.FireError,))
                self.assertTrue(issubclass(getattr(errors, name), ValueError))

    def test_no_refusal_stands_under_another(self):
        for name in REFUSALS:
            for other in REFUSALS:
                with self.subTest(name=name, other=other):
                    below = issubclass(getattr(errors, name), getattr(errors, other))
                    self.assertEqual(below, name == other)

    def test_a_refusal_is_raised_and_caught_by_its_names(self):
        for name in REFUSALS:
            for above in (getattr(errors, name), errors.FireError, ValueError):
                with self.subTest(name=name, above=above):
                    with self.assertRaises(above):
                        raise getattr(errors, name)("some words")


if __name__ == "__main__":
    unittest.main()
