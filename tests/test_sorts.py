import itertools
import unittest

from faultwhy.sorts import (
    has_number, is_bare_way, is_numbered_way, is_sort, number_fits, pin_count, pins_fit, way_fits,
)
from tests.helper import GREATEST, KIND, PINS, ways_for


class Sorts(unittest.TestCase):
    def test_which_words_are_sorts(self):
        for word in PINS:
            self.assertIs(is_sort(word), True)
        for word in ("", "adds", "Add", "x", "number", "nand", "mul", "stuck", "add times"):
            self.assertIs(is_sort(word), False)

    def test_counts_and_numbers(self):
        for sort in PINS:
            self.assertEqual(pin_count(sort), len(PINS[sort]))
            self.assertIs(has_number(sort), sort in ("const", "hold"))

    def test_kinds_of_pins(self):
        for sort in PINS:
            good = {tuple(KIND[x if sign == "x" else sign] for sign in PINS[sort]) for x in "nt"}
            for kinds in itertools.product(["number", "truth"], repeat=len(PINS[sort])):
                with self.subTest(sort=sort, kinds=kinds):
                    self.assertIs(pins_fit(sort, list(kinds)), kinds in good)

    def test_numbers(self):
        for number in (0, 1):
            self.assertTrue(number_fits("const", ["truth"], number))
            self.assertTrue(number_fits("hold", ["truth", "truth"], number))
        for number in (-1, 2, GREATEST):
            self.assertFalse(number_fits("const", ["truth"], number))
            self.assertFalse(number_fits("hold", ["truth", "truth"], number))
            self.assertTrue(number_fits("const", ["number"], number))
            self.assertTrue(number_fits("hold", ["number", "number"], number))
        self.assertTrue(number_fits("not", ["truth", "truth"], None))


class Ways(unittest.TestCase):
    def test_words(self):
        for word in ("stuck", "off", "pass", "flip", "does", "", "Flip"):
            self.assertIs(is_bare_way(word), word == "flip")
            self.assertIs(is_numbered_way(word), word in ("stuck", "off", "pass"))

    def test_which_fit(self):
        every = [("flip", None)] + [(word, number) for word in ("off", "stuck") for number in (-7, -1, 0, 1, 3)]
        every += [("pass", number) for number in range(-1, 6)]
        for sort in PINS:
            for x in "nt":
                kinds = [KIND[x if sign == "x" else sign] for sign in PINS[sort]]
                good = ways_for(sort, kinds)
                if kinds[-1] == "number":
                    good += [(word, number) for word in ("off", "stuck") for number in (-7, -1, 0, 1, 3)]
                for way in every:
                    with self.subTest(sort=sort, kinds=kinds, way=way):
                        self.assertIs(way_fits(sort, kinds, way), way in good)


if __name__ == "__main__":
    unittest.main()
