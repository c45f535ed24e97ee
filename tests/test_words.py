"""What point 11 says of names, numbers, rows and words."""

import string
import unittest

from mergeline.words import is_name, is_number, rows_of, words_of

SIGNS = [chr(code) for code in range(ord(" "), ord("~") + 1)] + ["\n", "\t"]


class Names(unittest.TestCase):
    def test_names(self):
        for word in ("a", "z", "ab", "desk", "abcdefgh", "zzzzzzzz"):
            with self.subTest(word=word):
                self.assertIs(is_name(word), True)

    def test_lengths_from_0_to_9(self):
        for length in range(10):
            with self.subTest(length=length):
                self.assertIs(is_name("q" * length), 1 <= length <= 8)

    def test_just_the_letters_a_to_z_in_any_spot(self):
        for sign in SIGNS:
            for word in (sign, sign + "bc", "a" + sign + "c", "ab" + sign):
                with self.subTest(word=word):
                    self.assertIs(is_name(word), sign in string.ascii_lowercase)

    def test_no_letters_beyond_a_to_z(self):
        for word in ("\u00e4", "\u00df", "\u03b1", "a\u0301"):
            with self.subTest(word=word):
                self.assertIs(is_name(word), False)


class Numbers(unittest.TestCase):
    def test_numbers(self):
        for word in ("0", "1", "7", "9", "10", "100000", "101010", "999999"):
            with self.subTest(word=word):
                self.assertIs(is_number(word), True)

    def test_no_numbers(self):
        words = ("", "00", "01", "007", "000000", "+1", "-1", "-0", "-", "1000000", "0999999", "1a", "a", "a1")
        for word in words + ("1_0", "1.0", "1e3", " 1", "1 ", "1\n", "0x1"):
            with self.subTest(word=word):
                self.assertIs(is_number(word), False)

    def test_just_figures_in_any_spot(self):
        for sign in SIGNS:
            for word in ("1" + sign + "2", "12" + sign):
                with self.subTest(word=word):
                    self.assertIs(is_number(word), sign in string.digits)
            self.assertIs(is_number(sign + "12"), sign in "123456789")

    def test_no_figures_beyond_0_to_9(self):
        for word in ("\u0663", "\u00b2", "1\u0663"):
            with self.subTest(word=word):
                self.assertIs(is_number(word), False)


class Words(unittest.TestCase):
    def test_one_or_more_blanks_part_words(self):
        self.assertEqual(words_of("line a 3"), ["line", "a", "3"])
        self.assertEqual(words_of("line  a     3"), ["line", "a", "3"])

    def test_blanks_at_the_ends_count_for_nothing(self):
        for row in (" line a", "line a ", "   line a   "):
            with self.subTest(row=row):
                self.assertEqual(words_of(row), ["line", "a"])

    def test_rows_without_words(self):
        for row in ("", " ", "     "):
            with self.subTest(row=row):
                self.assertEqual(words_of(row), [])

    def test_nothing_but_blanks_parts_words(self):
        for sign in SIGNS:
            if sign != " ":
                with self.subTest(sign=sign):
                    self.assertEqual(words_of("a" + sign + "b c"), ["a" + sign + "b", "c"])


class Rows(unittest.TestCase):
    def test_rows_are_counted_from_0(self):
        self.assertEqual(rows_of("gate a\nline b 2"), [(0, ["gate", "a"]), (1, ["line", "b", "2"])])

    def test_rows_without_words_are_passed_over_and_counted(self):
        self.assertEqual(rows_of("\n  \na\n\n \nb c\n"), [(2, ["a"]), (5, ["b", "c"])])

    def test_texts_without_words(self):
        for text in ("", "\n", "   ", " \n  \n\n"):
            with self.subTest(text=text):
                self.assertEqual(rows_of(text), [])

    def test_blanks_at_the_ends_and_between(self):
        self.assertEqual(rows_of("  a   b \n c  "), [(0, ["a", "b"]), (1, ["c"])])

    def test_nothing_but_line_feeds_parts_rows(self):
        for sign in SIGNS + ["\r", "\f", "\v"]:
            if sign not in " \n":
                with self.subTest(sign=sign):
                    self.assertEqual(rows_of("a" + sign + "b"), [(0, ["a" + sign + "b"])])

    def test_what_is_told_is_the_askers_own(self):
        text = "gate a\ngate a"
        told = rows_of(text)
        self.assertIsNot(told[0][1], told[1][1])
        told[0][1].append("x")
        told.append("x")
        self.assertEqual(rows_of(text), [(0, ["gate", "a"]), (1, ["gate", "a"])])
        row = words_of("gate a")
        row.append("x")
        self.assertEqual(words_of("gate a"), ["gate", "a"])


if __name__ == "__main__":
    unittest.main()
