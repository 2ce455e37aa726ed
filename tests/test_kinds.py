import unittest

from faultwhy.kinds import KINDS, has_few_figures, is_kind, is_value
from faultwhy.words import is_number

GREATEST = int("9" * 60)
NUMBERS = [0, 1, -1, 2, -2, 41, -41, 10 ** 59, -(10 ** 59), GREATEST - 1, 1 - GREATEST, GREATEST, -GREATEST]
BEYOND = [10 ** 60, -(10 ** 60), 10 ** 60 + 1, -(10 ** 60) - 1, 10 ** 61, -(10 ** 61), 10 ** 400, -(10 ** 400)]


class Kinds(unittest.TestCase):
    def test_there_are_two(self):
        self.assertEqual(sorted(KINDS), ["number", "truth"])

    def test_is_kind(self):
        for word in ("number", "truth"):
            self.assertIs(is_kind(word), True)
        for word in ("", "numbe", "numbers", "Number", "truths", "TRUTH", "x", " number", "truth\n", "number truth"):
            with self.subTest(word=word):
                self.assertIs(is_kind(word), False)


class Values(unittest.TestCase):
    def test_numbers(self):
        for value in NUMBERS:
            with self.subTest(value=value):
                self.assertIs(is_value("number", value), True)
                self.assertIs(has_few_figures(value), True)

    def test_beyond_the_sixty_figures(self):
        for value in BEYOND:
            with self.subTest(value=value):
                self.assertIs(is_value("number", value), False)
                self.assertIs(has_few_figures(value), False)

    def test_a_number_is_one_that_can_be_written(self):
        for value in NUMBERS + BEYOND:
            with self.subTest(value=value):
                self.assertIs(is_value("number", value), is_number(str(value)))

    def test_truths(self):
        for value in (0, 1):
            self.assertIs(is_value("truth", value), True)
        for value in (-2, -1, 2, 3, 10, GREATEST, -GREATEST, 10 ** 60, -(10 ** 60)):
            with self.subTest(value=value):
                self.assertIs(is_value("truth", value), False)


if __name__ == "__main__":
    unittest.main()
