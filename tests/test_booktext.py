"""Point 52, and points 1 and 3 for it."""

import random
import unittest

from mergeline.booktext import book_text, read_book
from mergeline.errors import BadBook
from mergeline.plants import read_plant
from mergeline.running import run_by_events
from tests.helper import parts_of, some_day, some_rows, spoil_parts

BOOK = [("come", 0, 3), ("spoil", 4, 12), ("take", 4, "d", (0,)), ("take", 9, "desk", (7, 0, 12)), ("put", 9, "d", (0,)),
        ("put", 999999, "abcdefgh", (999999, 0))]
TEXT = "0 come 3\n4 spoil 12\n4 take d 0\n9 take desk 7 0 12\n9 put d 0\n999999 put abcdefgh 999999 0"


class Writing(unittest.TestCase):
    def test_each_form(self):
        self.assertEqual(book_text(BOOK), TEXT)
        for entry, row in zip(BOOK, TEXT.split("\n")):
            self.assertEqual(book_text([entry]), row)

    def test_the_empty_book(self):
        self.assertEqual(book_text([]), "")

    def test_desks_called_like_deeds(self):
        for name in ("come", "spoil", "take", "put"):
            self.assertEqual(book_text([("take", 1, name, (2,)), ("put", 3, name, (2,))]), f"1 take {name} 2\n3 put {name} 2")

    def test_numbers_greater_than_those_that_are_read(self):
        self.assertEqual(book_text([("come", 12345678, 0), ("put", 12345679, "d", (1234567,))]),
                         "12345678 come 0\n12345679 put d 1234567")


class Reading(unittest.TestCase):
    def fault(self, text):
        with self.assertRaises(BadBook) as taken:
            read_book(text)
        return (taken.exception.place, taken.exception.word)

    def test_each_form(self):
        self.assertEqual(read_book(TEXT), BOOK)
        for entry, row in zip(BOOK, TEXT.split("\n")):
            self.assertEqual(read_book(row), [entry])

    def test_the_kinds_of_what_is_told(self):
        book = read_book(TEXT)
        self.assertIs(type(book), list)
        for entry in book:
            self.assertIs(type(entry), tuple)
            self.assertIs(type(entry[1]), int)
            if entry[0] in ("come", "spoil"):
                self.assertIs(type(entry[2]), int)
            else:
                self.assertIs(type(entry[3]), tuple)
                self.assertTrue(all(type(good) is int for good in entry[3]))

    def test_the_empty_book(self):
        for text in ("", " ", "\n", "  \n\n   \n"):
            self.assertEqual(read_book(text), [])

    def test_blanks_and_rows_of_blanks(self):
        self.assertEqual(read_book("\n  0 come   3 \n\n   \n4  spoil 12\n 4 take  d     0\n9 take desk 7 0   12 \n"
                                   "9 put d 0\n   999999 put abcdefgh 999999 0  \n  \n"), BOOK)

    def test_desks_called_like_deeds(self):
        for name in ("come", "spoil", "take", "put"):
            self.assertEqual(read_book(f"1 take {name} 2\n3 put {name} 2 4"),
                             [("take", 1, name, (2,)), ("put", 3, name, (2, 4))])
            for word in ("come", "spoil"):
                self.assertEqual(self.fault(f"0 come 0\n1 {word} {name} 2"), (1, "row"))

    def test_any_order_of_times_and_any_goods(self):
        self.assertEqual(read_book("9 come 0\n3 come 0\n3 put d 1 1"), [("come", 9, 0), ("come", 3, 0), ("put", 3, "d", (1, 1))])

    def test_rows_that_are_not_so_written(self):
        for row in (
            # No second word.
            "0", "come", "0come0",
            # A word that is none of the four, or that does not stand second.
            "0 go 1", "0 d 1", "0 Come 1", "0 comes 1", "0 tak d 1", "0 1 come", "come 0 1", "d take 0 1", "take 0 d 1",
            "0 puts d 1", "0 open d 1", "0 - d 1", "0 0 0", "0 0 0 0",
            # T no number.
            "a come 1", "-1 come 1", "01 come 1", "+1 come 1", "1000000 come 1", "1.0 come 1", "0x1 come 1", "- come 1",
            "1_0 come 1", "00 spoil 1", "x take d 1", "01 take d 1", "-1 put d 1", "1000000 put d 1",
            # GOOD no number.
            "0 come a", "0 come -1", "0 come 01", "0 come 1000000", "0 spoil -", "0 spoil 1.5", "0 spoil d",
            "0 take d a", "0 take d -1", "0 take d 1 a", "0 take d a 1", "0 take d 1 02", "0 take d 1 2 1000000",
            "0 put d a", "0 put d 1 -", "0 put d 1,2", "0 put d (1)", "0 put d 1 e 2",
            # A desk that is no name.
            "0 take 1 2", "0 take D 1", "0 take - 1", "0 take d1 1", "0 take abcdefghi 1", "0 take d_ 1",
            "0 put 1 2", "0 put D 1", "0 put - 1", "0 put d1 1", "0 put abcdefghi 1", "0 put 0 0 0",
            # No GOOD.
            "0 come", "0 spoil", "0 take", "0 put", "0 take d", "0 put d", "0 take 1", "0 put 1",
            # Two GOODs behind come and spoil.
            "0 come 1 2", "0 spoil 1 2", "0 come 1 d", "0 come 1 1", "0 spoil d 1", "0 come d 1", "0 come 1 2 3",
            # Other signs than blanks part no words.
            "0\tcome\t1", "0 come\t1", "0,come,1",
        ):
            with self.subTest(row=row):
                self.assertEqual(self.fault(row), (0, "row"))
                self.assertEqual(self.fault(f"{TEXT}\n{row}"), (6, "row"))
                self.assertEqual(self.fault(f"{row}\n{TEXT}"), (0, "row"))

    def test_the_first_such_row_all_rows_counted(self):
        self.assertEqual(self.fault("0 come 1\n1 come\n2 come 2\n3"), (1, "row"))
        self.assertEqual(self.fault("\n   \n0 come 1\n\n1 come\n2 come 2\n3"), (4, "row"))
        self.assertEqual(self.fault("\n\nx\n\ny"), (2, "row"))

    def test_what_is_told_is_the_askers_own(self):
        told = [read_book(TEXT), read_book(TEXT), read_book(""), read_book("")]
        parts = parts_of(told)
        self.assertEqual(len({id(part) for part in parts}), len(parts))
        spoil_parts(told[0])
        spoil_parts(told[2])
        self.assertEqual((read_book(TEXT), read_book("")), (BOOK, []))

    def test_the_book_that_is_handed_in_stays_as_it_was(self):
        book = list(BOOK)
        book_text(book)
        self.assertEqual(book, BOOK)


class Again(unittest.TestCase):
    def test_books_of_days_written_and_read(self):
        chance = random.Random(52)
        for count in range(60):
            plant = read_plant("\n".join(some_rows(chance)))
            book = run_by_events(plant, some_day(chance, plant, chance.choice([5, 25, 300])), 400)
            text = book_text(book)
            self.assertEqual(read_book(text), book)
            self.assertEqual(book_text(read_book(text)), text)


if __name__ == "__main__":
    unittest.main()
