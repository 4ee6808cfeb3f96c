import unittest

from nailhang import errors

NAMES = [
    "NoCord", "NoNails", "NoRule", "NoText", "NoMove", "NoLine", "NoName", "NoNumber", "TooMany", "TooLong",
]


class ErrorsTest(unittest.TestCase):
    def test_each_class_stands_under_hang_error(self):
        for name in NAMES:
            with self.subTest(name=name):
                refusal = getattr(errors, name)
                self.assertEqual(refusal.__name__, name)
                self.assertEqual(refusal.__bases__, (errors.HangError,))

    def test_hang_error_stands_under_value_error(self):
        self.assertEqual(errors.HangError.__bases__, (ValueError,))

    def test_none_of_the_ten_stands_under_another(self):
        classes = [getattr(errors, name) for name in NAMES]
        self.assertEqual(len(set(classes)), 10)
        for one in classes:
            for other in classes:
                self.assertEqual(issubclass(one, other), one is other)

    def test_each_can_be_raised_and_taken(self):
        for name in NAMES:
            refusal = getattr(errors, name)
            with self.assertRaises(errors.HangError) as taken:
                raise refusal("words")
            self.assertIs(type(taken.exception), refusal)


if __name__ == "__main__":
    unittest.main()
