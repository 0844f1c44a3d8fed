"""[2] and the interface: the refusals and which stands under which."""

import unittest

from copperbook import errors

NAMES = ["NoShape", "NoBoard", "NoPlace", "NoPicture", "NoCopper", "NoRules", "NoDrawing", "NoPin", "NoSpan", "NoLay"]


class ErrorsTest(unittest.TestCase):
    def test_the_base_stands_straight_under_value_error(self):
        self.assertEqual(errors.CopperError.__bases__, (ValueError,))

    def test_each_refusal_stands_straight_under_the_base(self):
        for name in NAMES:
            with self.subTest(name):
                self.assertEqual(getattr(errors, name).__bases__, (errors.CopperError,))

    def test_no_refusal_stands_under_another(self):
        classes = [getattr(errors, name) for name in NAMES]
        self.assertEqual(len(set(classes)), 10)
        for one in classes:
            for other in classes:
                if one is not other:
                    self.assertFalse(issubclass(one, other), (one, other))

    def test_each_refusal_can_be_raised_and_taken_as_the_base(self):
        for name in NAMES:
            with self.subTest(name), self.assertRaises(errors.CopperError):
                raise getattr(errors, name)("why")


if __name__ == "__main__":
    unittest.main()
