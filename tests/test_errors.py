import unittest

from leastmiss import errors

EIGHT = ["NoNumber", "NoMarks", "NoKind", "NoBend", "NoAnswer", "NoText", "NoName", "NoRow"]


class ErrorsTest(unittest.TestCase):
    def test_any_refusal_is_a_value_error(self):
        self.assertTrue(issubclass(errors.MissError, ValueError))
        self.assertIsNot(errors.MissError, ValueError)

    def test_each_stands_under_miss_error(self):
        for name in EIGHT:
            with self.subTest(name=name):
                found = getattr(errors, name)
                self.assertEqual(found.__name__, name)
                self.assertIsNot(found, errors.MissError)
                self.assertEqual(found.__bases__, (errors.MissError,))

    def test_none_stands_under_another_one(self):
        for name in EIGHT:
            for other in EIGHT:
                if name != other:
                    with self.subTest(name=name, other=other):
                        self.assertFalse(issubclass(getattr(errors, name), getattr(errors, other)))

    def test_each_can_be_raised_and_taken(self):
        for name in EIGHT:
            with self.subTest(name=name):
                with self.assertRaises(errors.MissError):
                    raise getattr(errors, name)("some words")


if __name__ == "__main__":
    unittest.main()
