"""The interface of pursebench/errors.py."""

import unittest

from pursebench.errors import BenchError, NoName, NoRow, NoShare, Taken, TooFew, TooMany

REFUSALS = [NoShare, Taken, TooMany, NoName, TooFew, NoRow]


class Errors(unittest.TestCase):
    def test_bench_error_is_a_value_error(self):
        self.assertTrue(issubclass(BenchError, ValueError))
        self.assertIsNot(BenchError, ValueError)

    def test_each_refusal_stands_beneath_bench_error(self):
        for refusal in REFUSALS:
            with self.subTest(refusal=refusal.__name__):
                self.assertTrue(issubclass(refusal, BenchError))
                self.assertIsNot(refusal, BenchError)

    def test_no_refusal_stands_beneath_another(self):
        for one in REFUSALS:
            for other in REFUSALS:
                if one.__name__ != other.__name__:
                    with self.subTest(one=one.__name__, other=other.__name__):
                        self.assertFalse(issubclass(one, other))

    def test_the_classes_have_their_names(self):
        names = [refusal.__name__ for refusal in [BenchError] + REFUSALS]
        self.assertEqual(names, ["BenchError", "NoShare", "Taken", "TooMany", "NoName", "TooFew", "NoRow"])

    def test_each_is_raised_and_taken_by_its_name(self):
        for refusal in REFUSALS:
            with self.subTest(refusal=refusal.__name__):
                with self.assertRaises(refusal):
                    raise refusal("words")
                with self.assertRaises(BenchError):
                    raise refusal("words")


if __name__ == "__main__":
    unittest.main()
