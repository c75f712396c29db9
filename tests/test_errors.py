import unittest

from closering import errors


class TheErrors(unittest.TestCase):
    def test_web_error_is_straight_under_value_error(self):
        self.assertEqual(errors.WebError.__bases__, (ValueError,))

    def test_each_refusal_is_straight_under_web_error(self):
        for name in ("BadWeb", "BadPoint", "BadTie", "Unlike", "BadText"):
            with self.subTest(name=name):
                self.assertEqual(getattr(errors, name).__bases__, (errors.WebError,))


if __name__ == "__main__":
    unittest.main()
