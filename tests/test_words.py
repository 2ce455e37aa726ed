import string
import unittest

from faultwhy.words import is_name, is_number, rows_of

SMALL = "abcdefghijklmnopqrstuvwxyz"
FIGURES = "0123456789"
# Beyond ASCII too: signs that Python's own tests take for letters or figures.
SIGNS = [chr(code) for code in range(128)] + ["\u00e9", "\u00df", "\u0430", "\u0663", "\u00b2", "\uff11", "\u2028"]


class Words(unittest.TestCase):
    def assert_each(self, asked, words, due):
        for word in words:
            with self.subTest(word=word):
                self.assertIs(asked(word), due)


class Names(Words):
    def test_lengths(self):
        self.assert_each(is_name, ["a", "ab", "a" * 11, "a" * 12, "z9" * 6, "abcdefghijkl"], True)
        self.assert_each(is_name, ["", "a" * 13, "a1" * 7, "a" * 400], False)

    def test_one_sign(self):
        self.assert_each(is_name, [sign for sign in SIGNS if sign in SMALL], True)
        self.assert_each(is_name, [sign for sign in SIGNS if sign not in SMALL], False)

    def test_each_sign_first(self):
        for rest in ("bc", "b" * 11):
            self.assert_each(is_name, [sign + rest for sign in SIGNS if sign in SMALL], True)
            self.assert_each(is_name, [sign + rest for sign in SIGNS if sign not in SMALL], False)

    def test_each_sign_in_the_middle(self):
        for left, right in (("a", "c"), ("abcde", "ghijkl")):
            self.assert_each(is_name, [left + sign + right for sign in SIGNS if sign in SMALL + FIGURES], True)
            self.assert_each(is_name, [left + sign + right for sign in SIGNS if sign not in SMALL + FIGURES], False)

    def test_each_sign_last(self):
        for left in ("a", "ab", "b" * 11):
            self.assert_each(is_name, [left + sign for sign in SIGNS if sign in SMALL + FIGURES], True)
            self.assert_each(is_name, [left + sign for sign in SIGNS if sign not in SMALL + FIGURES], False)

    def test_told_wrong_ones(self):
        wrong = ["1", "1a", "A", "aB", "abC", " ", " a", "a b", "a ", "\n", "\na", "a\nb", "a\n", "-a", "a-b", "a-"]
        wrong += ["_", "_a", "a_b", "a_", "a.b", "a%", "~a", "a\t", "a\r"]
        self.assert_each(is_name, wrong, False)

    def test_a_name_that_is_a_word_of_a_row_is_a_name(self):
        self.assert_each(is_name, ["wire", "part", "number", "shut", "const", "e1"], True)


class Numbers(Words):
    def test_ordinary_ones(self):
        self.assert_each(is_number, ["1", "9", "10", "100", "907", "-1", "-9", "-10", "-100", "1234567890"], True)

    def test_each_single_sign(self):
        self.assert_each(is_number, [sign for sign in SIGNS if sign in FIGURES], True)
        self.assert_each(is_number, [sign for sign in SIGNS if sign not in FIGURES], False)

    def test_nought(self):
        self.assert_each(is_number, ["0"], True)
        self.assert_each(is_number, ["-0", "00", "-00", "000", "0" * 60, "+0", "--0"], False)

    def test_nought_ahead(self):
        self.assert_each(is_number, ["01", "-01", "001", "007", "-007", "0" + "1" * 59, "-0" + "1" * 59], False)

    def test_signs_ahead_and_behind(self):
        wrong = ["", "-", "--", "--1", "---1", "+", "+1", "-+1", "+-1", "1-", "1-1", "-1-", "1+"]
        self.assert_each(is_number, wrong, False)

    def test_other_forms_of_numbers(self):
        self.assert_each(is_number, ["1.0", "1.", ".1", "1,0", "1_0", "1e3", "0x1", "1/2", "0b1"], False)

    def test_figures(self):
        for figure in "19":
            self.assert_each(is_number, [figure * 59, "-" + figure * 59, figure * 60, "-" + figure * 60], True)
            self.assert_each(is_number, [figure * 61, "-" + figure * 61, figure * 400, "-" + figure * 400], False)
        self.assert_each(is_number, ["1" + "0" * 59, "-1" + "0" * 59], True)
        self.assert_each(is_number, ["1" + "0" * 60, "-1" + "0" * 60], False)

    def test_blanks_and_line_ends(self):
        wrong = [" ", "\n", "- 1", "-\n1", "1 2", "1\n2"]
        for end in (" ", "\n", "\t", "\r", "\r\n"):
            for word in ("0", "1", "-1", "12"):
                wrong += [end + word, word + end]
        self.assert_each(is_number, wrong, False)

    def test_other_signs_at_any_place(self):
        others = [sign for sign in SIGNS if sign not in FIGURES]
        for place in range(4):
            # A `-` ahead of all figures is the one other sign that may stand.
            wrong = ["123"[:place] + sign + "123"[place:] for sign in others if place or sign != "-"]
            self.assert_each(is_number, wrong, False)
            self.assert_each(is_number, ["-" + word for word in wrong], False)

    def test_a_letter_at_any_place(self):
        for place in range(4):
            wrong = ["123"[:place] + letter + "123"[place:] for letter in string.ascii_letters]
            self.assert_each(is_number, wrong + ["-" + word for word in wrong], False)

    def test_what_is_written_by_python_is_a_number(self):
        for value in list(range(-120, 121)) + [10 ** 59, -(10 ** 59), 10 ** 60 - 1, 1 - 10 ** 60]:
            self.assert_each(is_number, [str(value)], True)
        self.assert_each(is_number, [str(10 ** 60), str(-(10 ** 60))], False)


class Rows(unittest.TestCase):
    def test_a_text_without_words_has_no_rows(self):
        for text in ("", " ", "\n", "\n \n\n", "    "):
            self.assertEqual(rows_of(text), [])

    def test_rows_are_counted_from_nought_with_the_empty_ones(self):
        self.assertEqual(rows_of("a"), [(0, ["a"])])
        self.assertEqual(rows_of("a\nb c\n"), [(0, ["a"]), (1, ["b", "c"])])
        self.assertEqual(rows_of("\n \n  a\n\nb"), [(2, ["a"]), (4, ["b"])])

    def test_blanks(self):
        self.assertEqual(rows_of("  a   b c    "), [(0, ["a", "b", "c"])])

    def test_only_blanks_part_words_and_only_line_ends_part_rows(self):
        for sign in [chr(code) for code in range(32)] + [chr(code) for code in range(33, 128)]:
            if sign != "\n":
                self.assertEqual(rows_of("a" + sign + "b"), [(0, ["a" + sign + "b"])])


if __name__ == "__main__":
    unittest.main()
