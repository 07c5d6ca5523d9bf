import itertools
import unittest

from sandyard.errors import NoRest, NoText, NotLasting, NoTumble, NoYard, SandError

REFUSALS = (NoYard, NoText, NoTumble, NoRest, NotLasting)


class ErrorClasses(unittest.TestCase):
    def test_sand_error_stands_under_value_error(self):
        self.assertTrue(issubclass(SandError, ValueError))
        self.assertIsNot(SandError, ValueError)

    def test_each_refusal_stands_under_sand_error(self):
        for refusal in REFUSALS:
            with self.subTest(refusal=refusal.__name__):
                self.assertTrue(issubclass(refusal, SandError))
                self.assertIsNot(refusal, SandError)

    def test_no_refusal_stands_below_another(self):
        for refusal, other in itertools.permutations(REFUSALS, 2):
            with self.subTest(refusal=refusal.__name__, other=other.__name__):
                self.assertFalse(issubclass(refusal, other))

    def test_each_can_be_raised_with_words_and_taken_as_any_of_the_three(self):
        for refusal in REFUSALS:
            for taken in (refusal, SandError, ValueError):
                with self.subTest(refusal=refusal.__name__, taken=taken.__name__):
                    with self.assertRaises(taken):
                        raise refusal("words")

    def test_names_are_as_told(self):
        names = [refusal.__name__ for refusal in REFUSALS]
        self.assertEqual(names, ["NoYard", "NoText", "NoTumble", "NoRest", "NotLasting"])
        self.assertEqual(SandError.__name__, "SandError")


if __name__ == "__main__":
    unittest.main()
