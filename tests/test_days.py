"""Points 21 and 22, and points 1 and 3 for them."""

import copy
import random
import unittest

from mergeline.days import day_text, look_day, read_day
from mergeline.errors import BadDay
from mergeline.plants import read_plant
from tests.helper import fields_of, some_day, some_rows

PLANT = "kind k 5\nkind m -\ngate g\ngate h\nline l 3\ndesk d to l by eldest from g"


class Days(unittest.TestCase):
    def setUp(self):
        self.plant = read_plant(PLANT)

    def look_fault(self, day):
        with self.assertRaises(BadDay) as taken:
            look_day(self.plant, day)
        return (taken.exception.place, taken.exception.word)

    def read_fault(self, text):
        with self.assertRaises(BadDay) as taken:
            read_day(self.plant, text)
        return (taken.exception.place, taken.exception.word)


class Looking(Days):
    """Point 21."""

    def test_days_without_fault(self):
        for day in (
            [],
            [(0, "g", "k", "")],
            [(0, "g", "k", "p"), (0, "h", "m", "p"), (0, "g", "k", ""), (3, "g", "m", "abcdefgh"), (3, "h", "k", "k")],
            [(999999, "h", "m", "g")],
            [(4, "g", "k", "")] * 200,
        ):
            self.assertIs(look_day(self.plant, day), True)

    def test_time(self):
        self.assertEqual(self.look_fault([(-1, "g", "k", "")]), (0, "time"))
        self.assertEqual(self.look_fault([(0, "g", "k", ""), (-1, "g", "k", "")]), (1, "time"))
        self.assertEqual(self.look_fault([(4, "g", "k", ""), (4, "g", "k", ""), (3, "h", "k", "")]), (2, "time"))
        self.assertEqual(self.look_fault([(4, "g", "k", ""), (2, "g", "k", ""), (3, "h", "k", "")]), (1, "time"))

    def test_gate(self):
        for gate in ("l", "d", "k", "x", "", "G"):
            with self.subTest(gate=gate):
                self.assertEqual(self.look_fault([(0, "g", "k", ""), (1, gate, "k", "")]), (1, "gate"))

    def test_kind(self):
        for kind in ("g", "l", "d", "x", "", "K"):
            with self.subTest(kind=kind):
                self.assertEqual(self.look_fault([(0, "g", "k", ""), (1, "h", kind, "")]), (1, "kind"))

    def test_parcel(self):
        for parcel in ("-", " ", "P", "p1", "abcdefghi", "p p", "p\n"):
            with self.subTest(parcel=parcel):
                self.assertEqual(self.look_fault([(0, "g", "k", "p"), (1, "h", "m", parcel)]), (1, "parcel"))

    def test_the_first_word_due(self):
        self.assertEqual(self.look_fault([(-1, "x", "x", "X")]), (0, "time"))
        self.assertEqual(self.look_fault([(0, "x", "x", "X")]), (0, "gate"))
        self.assertEqual(self.look_fault([(0, "g", "x", "X")]), (0, "kind"))
        self.assertEqual(self.look_fault([(0, "g", "k", "X")]), (0, "parcel"))

    def test_the_first_good_at_fault(self):
        fine = (5, "g", "k", "")
        for first, word in (((5, "g", "k", "X"), "parcel"), ((5, "g", "x", ""), "kind"), ((5, "x", "k", ""), "gate"),
                            ((4, "g", "k", ""), "time")):
            for second in ((4, "g", "k", ""), (5, "x", "k", ""), (5, "g", "x", ""), (5, "g", "k", "X")):
                with self.subTest(first=first, second=second):
                    self.assertEqual(self.look_fault([fine, first, fine, second]), (1, word))

    def test_things_of_another_kind_are_refused(self):
        for good, word in (((None, "g", "k", ""), "time"), (("1", "g", "k", ""), "time"), ((True, "g", "k", ""), "time"),
                           ((1, None, "k", ""), "gate"), ((1, ["g"], "k", ""), "gate"), ((1, "g", 0, ""), "kind"),
                           ((1, "g", ["k"], ""), "kind"), ((1, "g", "k", None), "parcel"), ((1, "g", "k", 0), "parcel")):
            with self.subTest(good=good):
                self.assertEqual(self.look_fault([(0, "g", "k", ""), good]), (1, word))

    def test_numbers_of_any_size(self):
        great = 10 ** 5000
        self.assertIs(look_day(self.plant, [(great, "g", "k", ""), (great + 1, "g", "k", "")]), True)
        self.assertEqual(self.look_fault([(great, "g", "k", ""), (great - 1, "g", "k", "")]), (1, "time"))
        self.assertEqual(self.look_fault([(-great, "g", "k", "")]), (0, "time"))

    def test_a_plant_without_gates_has_the_empty_day_alone(self):
        self.plant = read_plant("")
        self.assertIs(look_day(self.plant, []), True)
        self.assertEqual(self.look_fault([(0, "g", "k", "")]), (0, "gate"))


class Writing(Days):
    """Point 22."""

    def test_parcels_and_none(self):
        day = [(0, "g", "k", ""), (0, "h", "m", "p"), (999999, "g", "m", "abcdefgh")]
        self.assertEqual(day_text(day), "0 g k -\n0 h m p\n999999 g m abcdefgh")

    def test_the_empty_day(self):
        self.assertEqual(day_text([]), "")

    def test_one_good(self):
        self.assertEqual(day_text([(7, "g", "k", "g")]), "7 g k g")

    def test_times_greater_than_those_that_are_read(self):
        self.assertEqual(day_text([(12345678, "g", "k", "")]), "12345678 g k -")

    def test_read_again_it_is_the_same(self):
        chance = random.Random(22)
        for count in range(60):
            self.plant = read_plant("\n".join(some_rows(chance)))
            day = some_day(chance, self.plant, chance.choice([3, 50, 900000]))
            text = day_text(day)
            self.assertEqual(read_day(self.plant, text), day)
            self.assertEqual(day_text(read_day(self.plant, text)), text)


class Reading(Days):
    """Point 22."""

    def test_parcels_and_none(self):
        told = read_day(self.plant, "0 g k -\n0 h m p\n999999 g m abcdefgh")
        self.assertEqual(told, [(0, "g", "k", ""), (0, "h", "m", "p"), (999999, "g", "m", "abcdefgh")])
        self.assertIs(type(told), list)
        self.assertTrue(all(type(good) is tuple for good in told))

    def test_the_empty_day(self):
        for text in ("", "\n", "   ", "\n \n"):
            with self.subTest(text=text):
                self.assertEqual(read_day(self.plant, text), [])

    def test_blanks_and_rows_of_blanks(self):
        text = "\n   \n  3   g  k -  \n\n 4 h m    p\n  "
        self.assertEqual(read_day(self.plant, text), [(3, "g", "k", ""), (4, "h", "m", "p")])

    def no_rows(self):
        rows = ["3", "3 g", "3 g k", "3 g k - -", "3 g k p p", "g k -", "3 g k -x"]
        rows += [f"{time} g k -" for time in ("-", "x", "-1", "+1", "01", "00", "1000000", "3.0", "g")]
        rows += [f"3 {word} k -" for word in ("-", "G", "g1", "1", "abcdefghi", "g.")]
        rows += [f"3 g {word} -" for word in ("-", "K", "k1", "1", "abcdefghi", "k,")]
        return rows + [f"3 g k {word}" for word in ("P", "p1", "1", "abcdefghi", "--", "0")]

    def test_rows_that_are_not_so_written(self):
        for row in self.no_rows():
            with self.subTest(row=row):
                self.assertEqual(self.read_fault(row), (0, "row"))
                self.assertEqual(self.read_fault("3 g k -\n\n  \n" + row + "\n3 g k -"), (3, "row"))

    def test_ahead_of_a_good_at_fault_and_behind_one(self):
        for fault in ("2 g k -", "3 l k -", "3 x k -", "3 g x -"):
            for row in self.no_rows():
                with self.subTest(fault=fault, row=row):
                    self.assertEqual(self.read_fault(f"3 g k -\n{row}\n{fault}"), (1, "row"))
                    self.assertEqual(self.read_fault(f"3 g k -\n{fault}\n\n{row}"), (3, "row"))

    def test_the_first_row_that_is_not_so_written(self):
        self.assertEqual(self.read_fault("3 g k -\n\nx\n3 g k\n"), (2, "row"))

    def test_refused_as_look_day_refuses_with_the_goods_number(self):
        self.assertEqual(self.read_fault("\n3 g k -\n\n \n2 g k -"), (1, "time"))
        self.assertEqual(self.read_fault("\n\n3 l k -"), (0, "gate"))
        self.assertEqual(self.read_fault("\n3 g k -\n\n3 x k -\n1 g k -"), (1, "gate"))
        self.assertEqual(self.read_fault("3 g k -\n\n3 g k p\n\n\n3 h x p"), (2, "kind"))
        self.assertEqual(self.read_fault("3 g k -\n2 x x -"), (1, "time"))
        self.assertEqual(self.read_fault("3 g k -\n3 x x -"), (1, "gate"))


class HandedIn(Days):
    """Point 1."""

    def test_nothing_that_is_handed_in_is_changed(self):
        held = fields_of(self.plant)
        day = [(1, "g", "k", ""), (2, "h", "m", "p"), (0, "x", "x", "")]
        kept = copy.deepcopy(day)
        self.look_fault(day)
        look_day(self.plant, day[:2])
        day_text(day)
        read_day(self.plant, "1 g k -")
        self.read_fault("1 x k -")
        self.assertEqual(day, kept)
        self.assertEqual(fields_of(self.plant), held)

    def test_what_is_told_is_the_askers_own(self):
        text = "1 g k -\n2 h m p"
        first = read_day(self.plant, text)
        second = read_day(self.plant, text)
        self.assertIsNot(first, second)
        first.clear()
        self.assertEqual(second, [(1, "g", "k", ""), (2, "h", "m", "p")])
        self.assertEqual(read_day(self.plant, text), second)


if __name__ == "__main__":
    unittest.main()
