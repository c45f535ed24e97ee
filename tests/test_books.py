"""Points 53, 54 and 55, and points 1, 2 and 3 for them."""

import copy
import random
import unittest

from mergeline.books import first_fault, replayed
from mergeline.errors import BadBook
from mergeline.floors import Floor
from mergeline.plants import read_plant
from mergeline.running import run_by_events, run_by_turns
from tests.helper import book_of, day_of, fields_of, parts_of, some_day, some_rows, spoil_parts


class Held(unittest.TestCase):
    """Point 53."""

    def setUp(self):
        self.plant = read_plant("kind k 9\ngate a\nline p 1\ndesk d to p by eldest from a\ntime d k 2")
        self.day = day_of("1 a k -", "1 a k -", "4 a k -")
        self.right = book_of("1 come 0", "1 come 1", "1 take d 0", "3 put d 0", "3 take d 1", "4 come 2",
                             "10 spoil 0", "10 put d 1", "10 take d 2", "11 spoil 1")

    def fault(self, book, until=11):
        return first_fault(self.plant, self.day, until, book)

    def test_the_right_book(self):
        self.assertEqual(run_by_turns(self.plant, self.day, 11), self.right)
        self.assertIsNone(self.fault(self.right))
        self.assertIsNone(self.fault(list(self.right)))

    def test_until_tells_where_the_right_book_ends(self):
        self.assertIsNone(self.fault([], 0))
        self.assertIsNone(self.fault(self.right[:3], 1))
        self.assertIsNone(self.fault(self.right[:3], 2))
        self.assertEqual(self.fault(self.right[:3], 3), (3, self.right[3]))
        self.assertEqual(self.fault(self.right, 10), (9, None))
        self.assertEqual(self.fault(self.right, 0), (0, None))
        self.assertEqual(self.fault(self.right, 2000), (10, ("put", 12, "d", (2,))))

    def test_entries_lack_at_its_end(self):
        for end, due in enumerate(self.right):
            self.assertEqual(self.fault(self.right[:end]), (end, due))

    def test_an_empty_book(self):
        self.assertEqual(self.fault([]), (0, ("come", 1, 0)))
        self.day = []
        self.assertIsNone(self.fault([]))
        self.assertEqual(self.fault([("come", 0, 0)]), (0, None))

    def test_one_entry_more(self):
        for more in (self.right[-1], self.right[0], ("come", 11, 3), ("take", 11, "x", (9,))):
            self.assertEqual(self.fault(self.right + [more]), (10, None))
        self.assertEqual(self.fault(self.right * 2), (10, None))

    def test_one_entry_more_within(self):
        for place, due in enumerate(self.right):
            book = self.right[:place] + [("come", 0, 99)] + self.right[place:]
            self.assertEqual(self.fault(book), (place, due))

    def test_one_entry_that_differs(self):
        for place, due in enumerate(self.right):
            for entry in (("come", due[1], 7), ("spoil", due[1] + 1, due[2]), ("take", due[1], "d", (7,)),
                          ("put", due[1], "e", (0,)), due[:1] + (due[1] + 1,) + due[2:], ("none",) + due[1:]):
                book = self.right[:place] + [entry] + self.right[place + 1:]
                self.assertEqual(self.fault(book), (place, due))

    def test_several_entries_that_differ(self):
        for first in range(len(self.right)):
            for second in range(first + 1, len(self.right)):
                book = list(self.right)
                book[first] = book[second] = ("come", 3, 5)
                self.assertEqual(self.fault(book), (first, self.right[first]))
                self.assertEqual(self.fault(book[:second]), (first, self.right[first]))
                self.assertEqual(self.fault(book + book), (first, self.right[first]))

    def test_the_same_entries_in_another_order(self):
        for place in range(len(self.right) - 1):
            book = list(self.right)
            book[place], book[place + 1] = book[place + 1], book[place]
            self.assertEqual(self.fault(book), (place, self.right[place]))
        self.assertEqual(self.fault(self.right[::-1]), (0, self.right[0]))

    def test_goods_of_a_load_in_another_order(self):
        self.plant = read_plant("kind k -\ngate a\ndesk d to - by many 2 from a")
        self.day = day_of("0 a k -", "0 a k -")
        book = book_of("0 come 0", "0 come 1", "0 take d 0 1", "1 put d 0 1")
        self.assertIsNone(self.fault(book))
        self.assertEqual(self.fault(book_of("0 come 0", "0 come 1", "0 take d 1 0", "1 put d 1 0")), (2, book[2]))
        self.assertEqual(self.fault(book_of("0 come 0", "0 come 1", "0 take d 0 1", "1 put d 0")), (3, book[3]))

    def test_books_of_many_days(self):
        chance = random.Random(53)
        for count in range(60):
            plant = read_plant("\n".join(some_rows(chance)))
            day = some_day(chance, plant)
            right = run_by_turns(plant, day, 40)
            self.assertIsNone(first_fault(plant, day, 40, right))
            if right:
                place = chance.randrange(len(right))
                # No two entries of a right book are the same, so that it differs where one lacks.
                lacks = right[:place] + right[place + 1:] + [("come", 41, 0)]
                self.assertEqual(first_fault(plant, day, 40, lacks), (place, right[place]))

    def test_nothing_is_changed(self):
        held, day = fields_of(self.plant), list(self.day)
        for book in (self.right, self.right[:4], self.right + self.right, []):
            kept = copy.deepcopy(book)
            self.assertEqual(self.fault(book), self.fault(book))
            self.assertEqual(book, kept)
        self.assertEqual(fields_of(self.plant), held)
        self.assertEqual(self.day, day)


class Replays(unittest.TestCase):
    """Point 54."""

    ROWS = ["kind k 2", "kind m -", "gate a", "gate b", "gate c", "line p 2", "line q 3", "line r 1",
            "desk d to p by eldest from a b", "desk e to - by meet from p c", "desk f to q by gather 2 50 from q",
            "time d k 3", "time d m 5", "time e m 2", "time f k 4", "open d 900 901"]
    GOODS = ["5 a k -", "5 b m x", "6 a k -", "6 c m x", "7 b k -", "8 a m -"]

    def setUp(self):
        self.plant = read_plant("\n".join(self.ROWS))
        self.day = day_of(*self.GOODS)

    def state(self, *rows):
        return replayed(self.plant, self.day, book_of(*rows))

    def check(self, rows, places, loads):
        """Behind these rows, what stands in places and loads is there, and else nothing."""
        told = self.state(*rows)
        due = {name: [] for name in ("a", "b", "c", "p", "q", "r")}
        due.update(places)
        held = {name: None for name in ("d", "e", "f")}
        held.update(loads)
        self.assertEqual(told, (due, held))
        self.assertIs(type(told), tuple)
        self.assertEqual(list(told[0]), ["a", "b", "c", "p", "q", "r"])
        self.assertEqual(list(told[1]), ["d", "e", "f"])

    def fault(self, *rows):
        with self.assertRaises(BadBook) as taken:
            self.state(*rows)
        return (taken.exception.place, taken.exception.word)

    def refused(self, ahead, row, word):
        """The row is refused behind those ahead, which are not, and is told ahead of what is wrong behind it."""
        self.state(*ahead)
        with self.subTest(row=row):
            self.assertEqual(self.fault(*ahead, row), (len(ahead), word))
            self.assertEqual(self.fault(*ahead, row, "0 come 99", "0 put x 1"), (len(ahead), word))


class Doing(Replays):
    COME = ["0 come 0", "0 come 1", "0 come 2", "0 come 3", "0 come 4", "0 come 5"]

    def test_the_empty_book(self):
        self.check([], {}, {})

    def test_a_plant_without_all(self):
        self.assertEqual(replayed(read_plant(""), [], []), ({}, {}))

    def test_gates_stand_ahead_of_lines_whatever_the_rows(self):
        plant = read_plant("line z 1\ngate y\nline x 1\ngate w\ndesk v to - by eldest from z\ndesk u to - by eldest from y")
        told = replayed(plant, [], [])
        self.assertEqual(list(told[0].items()), [("y", []), ("w", []), ("z", []), ("x", [])])
        self.assertEqual(list(told[1].items()), [("v", None), ("u", None)])

    def test_goods_come_into_their_gates_behind_those_that_wait(self):
        self.check(self.COME, {"a": [0, 2, 5], "b": [1, 4], "c": [3]}, {})

    def test_in_any_order_and_at_any_time(self):
        self.check(["0 come 5", "0 come 0", "700 come 2", "999999 come 1"], {"a": [5, 0, 2], "b": [1]}, {})

    def test_goods_spoil_at_any_time_and_of_any_kind(self):
        self.check(self.COME + ["0 spoil 5", "0 spoil 0", "90 spoil 1"], {"a": [2], "b": [4], "c": [3]}, {})

    def test_goods_spoil_in_a_line(self):
        self.check(self.COME + ["0 take d 0", "3 put d 0", "3 take d 2", "6 put d 2", "6 spoil 0"],
                   {"a": [5], "b": [1, 4], "c": [3], "p": [2]}, {})

    def test_a_load_is_taken_from_any_spots_in_any_order(self):
        # Four goods at once, the desk closed: no rule and no hours are looked at.
        self.check(self.COME + ["7 take d 4 5 0 1"], {"a": [2], "c": [3]}, {"d": ((4, 5, 0, 1), 12)})

    def test_the_greatest_work_of_a_load(self):
        self.check(self.COME + ["7 take d 4 0"], {"a": [2, 5], "b": [1], "c": [3]}, {"d": ((4, 0), 10)})
        self.check(self.COME + ["7 take d 0 1 2"], {"a": [5], "b": [4], "c": [3]}, {"d": ((0, 1, 2), 12)})
        self.check(self.COME + ["7 take e 3"], {"a": [0, 2, 5], "b": [1, 4]}, {"e": ((3,), 9)})

    def test_work_that_no_row_tells(self):
        self.day[3] = (6, "c", "k", "")
        self.check(["1 come 3", "8 take e 3"], {}, {"e": ((3,), 9)})

    def test_a_load_is_put_behind_those_in_the_line(self):
        self.check(self.COME + ["7 take d 2", "10 put d 2", "10 take d 0", "13 put d 0"],
                   {"a": [5], "b": [1, 4], "c": [3], "p": [2, 0]}, {})
        self.check(self.COME + ["7 take d 1 0", "12 put d 1 0"], {"a": [2, 5], "b": [4], "c": [3], "p": [1, 0]}, {})

    def test_a_load_is_put_late(self):
        self.check(self.COME + ["7 take d 2", "999 put d 2"], {"a": [0, 5], "b": [1, 4], "c": [3], "p": [2]}, {})

    def test_a_load_is_put_out(self):
        self.check(self.COME + ["7 take e 3", "9 put e 3"], {"a": [0, 2, 5], "b": [1, 4]}, {})
        self.check(self.COME + ["0 take d 1", "5 put d 1", "5 take e 1 3", "7 put e 1 3"], {"a": [0, 2, 5], "b": [4]}, {})

    def test_several_desks_hold_loads(self):
        self.check(self.COME + ["0 take d 1", "5 put d 1", "5 take d 0", "6 take e 3 1"],
                   {"a": [2, 5], "b": [4]}, {"d": ((0,), 8), "e": ((3, 1), 8)})

    def test_a_desk_that_takes_what_it_puts(self):
        self.plant = read_plant("kind k -\ngate a\nline p 2\ndesk d to p by eldest from a p")
        self.day = day_of("0 a k -", "0 a k -")
        self.assertEqual(self.state("0 come 0", "0 come 1", "0 take d 1", "1 put d 1", "1 take d 1 0", "2 put d 1 0"),
                         ({"a": [], "p": [1, 0]}, {"d": None}))

    def test_a_line_filled_just_to_its_room(self):
        self.check(self.COME + ["0 take d 0 1", "5 put d 0 1"], {"a": [2, 5], "b": [4], "c": [3], "p": [0, 1]}, {})
        self.check(self.COME + ["0 take d 0", "5 put d 0", "5 take d 1", "10 put d 1"],
                   {"a": [2, 5], "b": [4], "c": [3], "p": [0, 1]}, {})

    def test_room_is_made_by_what_is_taken_or_spoils(self):
        ahead = self.COME + ["0 take d 0 1", "5 put d 0 1", "5 take d 2"]
        self.check(ahead + ["8 take e 0", "8 put d 2"], {"a": [5], "b": [4], "c": [3], "p": [1, 2]}, {"e": ((0,), 9)})
        self.check(ahead + ["8 spoil 1", "8 put d 2"], {"a": [5], "b": [4], "c": [3], "p": [0, 2]}, {})


class Refusing(Replays):
    COME = Doing.COME

    def test_time(self):
        self.refused([], "-1 come 0", "time")
        self.refused(["4 come 0"], "3 come 1", "time")
        self.refused(["4 come 0", "4 come 1"], "3 spoil 0", "time")
        self.refused(["4 come 0"], "3 take d 0", "time")
        self.refused(["4 come 0", "4 take d 0"], "3 put d 0", "time")
        for row in ("-1 spoil 0", "-1 take d 0", "-1 put d 0"):
            self.refused([], row, "time")
        # The entry ahead tells, not the greatest one of all: no time of a book that was done so far is greater.
        self.refused(["0 come 0", "5 come 1", "5 come 2"], "4 come 3", "time")

    def test_the_same_time_and_time_0(self):
        self.check(["0 come 0", "0 come 1", "5 come 2", "5 come 3"], {"a": [0, 2], "b": [1], "c": [3]}, {})

    def test_time_ahead_of_all_other_words(self):
        ahead = self.COME + ["5 take d 0 1 2"]
        for row in ("4 come 99", "4 spoil 99", "4 take x 99", "4 put x 99", "4 take d 99", "4 put d 1", "4 put d 0 1 2"):
            self.refused(ahead, row, "time")

    def test_desk(self):
        for name in ("x", "a", "p", "k", "dd", "eldest"):
            self.refused(self.COME, f"0 take {name} 0", "desk")
            self.refused(self.COME + ["0 take d 0"], f"9 put {name} 0", "desk")
        self.assertEqual(self.fault("0 take x 0"), (0, "desk"))

    def test_desk_ahead_of_good(self):
        self.refused(self.COME, "0 take x 99", "desk")
        self.refused(self.COME, "0 take x 0 0", "desk")
        self.refused(self.COME, "0 put x 0", "desk")

    def test_desk_that_is_no_name(self):
        for name in ("", "-", "D"):
            with self.assertRaises(BadBook) as taken:
                replayed(self.plant, self.day, [("take", 0, name, (0,))])
            self.assertEqual((taken.exception.place, taken.exception.word), (0, "desk"))

    def test_good_that_comes(self):
        for good in ("6", "7", "200", "999999", "-1", "-6"):
            self.refused(self.COME, f"0 come {good}", "good")
            self.refused([], f"0 come {good}", "good")
        self.refused(["0 come 0"], "0 come 0", "good")
        self.refused(["0 come 0", "5 come 1"], "9 come 0", "good")

    def test_good_that_comes_again_behind_all_that_can_be_done_with_it(self):
        self.refused(["0 come 0", "0 spoil 0"], "0 come 0", "good")
        self.refused(["0 come 0", "0 take d 0"], "0 come 0", "good")
        self.refused(["0 come 0", "0 take d 0", "3 put d 0"], "3 come 0", "good")
        self.refused(["0 come 3", "0 take e 3", "2 put e 3"], "2 come 3", "good")

    def test_good_that_spoils_where_it_does_not_wait(self):
        for good in ("0", "5", "6", "999999", "-1"):
            self.refused([], f"0 spoil {good}", "good")
        self.refused(["0 come 0"], "0 spoil 1", "good")
        self.refused(["0 come 0", "0 spoil 0"], "0 spoil 0", "good")
        self.refused(["0 come 0", "0 take d 0"], "0 spoil 0", "good")
        self.refused(["0 come 3", "0 take e 3", "2 put e 3"], "2 spoil 3", "good")
        self.refused(self.COME, "0 spoil -1", "good")

    def test_good_that_is_taken_where_it_does_not_wait(self):
        for goods in ("-1", "6", "999999", "3", "0 3", "3 0", "0 1 2 4 5 6", "-1 0", "0 -6"):
            self.refused(self.COME, f"0 take d {goods}", "good")
        self.refused([], "0 take d 0", "good")
        self.refused(["0 come 0", "0 spoil 0"], "0 take d 0", "good")
        self.refused(["0 come 0", "0 take d 0", "3 put d 0"], "3 take d 0", "good")
        self.refused(["0 come 3", "0 take e 3", "2 put e 3"], "2 take e 3", "good")

    def test_good_that_is_taken_from_a_place_of_another_desk(self):
        self.refused(self.COME, "0 take e 0", "good")
        self.refused(self.COME, "0 take e 3 0", "good")
        self.refused(self.COME, "0 take f 0", "good")
        self.refused(self.COME + ["0 take d 0", "3 put d 0"], "3 take d 0 1", "good")
        self.refused(self.COME + ["0 take d 0"], "3 take e 0", "good")

    def test_good_told_twice_in_a_take(self):
        for goods in ("0 0", "0 1 0", "1 0 0", "4 4 4"):
            self.refused(self.COME, f"0 take d {goods}", "good")

    def test_good_that_is_put_where_the_desk_holds_another_load(self):
        ahead = self.COME + ["0 take d 0 1 2"]
        for goods in ("0 2 1", "2 1 0", "0 1", "1 2", "0", "2", "0 1 2 4", "4 0 1 2", "0 0 1 2", "0 1 2 2", "4", "99", "-1"):
            self.refused(ahead, f"9 put d {goods}", "good")
        self.refused(self.COME, "9 put d 0", "good")
        self.refused(ahead, "9 put e 0 1 2", "good")
        self.refused(self.COME + ["0 take d 0", "3 put d 0"], "9 put d 0", "good")

    def test_good_ahead_of_busy(self):
        ahead = self.COME + ["0 take d 0"]
        for goods in ("0", "1 1", "3", "99", "-1", "1 0"):
            self.refused(ahead, f"0 take d {goods}", "good")

    def test_good_ahead_of_work_and_room(self):
        ahead = self.COME + ["0 take d 0 1 2"]
        for row in ("0 put d 1 0 2", "4 put d 0 1", "9 put d 2 1 0"):
            self.refused(ahead, row, "good")

    def test_busy(self):
        self.refused(self.COME + ["0 take d 0"], "0 take d 1", "busy")
        self.refused(self.COME + ["0 take d 0"], "500 take d 4 5", "busy")
        self.refused(self.COME + ["0 take e 3", "0 take d 1", "5 put d 1"], "5 take e 1", "busy")

    def test_work(self):
        for goods, end in (("0", 10), ("1", 12), ("4 0", 10), ("0 5", 12)):
            ahead = self.COME + [f"7 take d {goods}"]
            for t in (7, end - 1):
                self.refused(ahead, f"{t} put d {goods}", "work")
            self.state(*ahead, f"{end} put d {goods}")
        self.refused(self.COME + ["7 take e 3"], "8 put e 3", "work")

    def test_work_ahead_of_room(self):
        self.refused(self.COME + ["0 take d 0 1 2"], "4 put d 0 1 2", "work")
        self.refused(self.COME + ["0 take d 0 1", "5 put d 0 1", "5 take d 2"], "7 put d 2", "work")

    def test_room(self):
        self.refused(self.COME + ["0 take d 0 1 2"], "5 put d 0 1 2", "room")
        self.refused(self.COME + ["0 take d 0 1 2"], "999999 put d 0 1 2", "room")
        self.refused(self.COME + ["0 take d 0 1", "5 put d 0 1", "5 take d 2"], "8 put d 2", "room")
        self.refused(self.COME + ["0 take d 0", "5 put d 0", "5 take d 1 2"], "10 put d 1 2", "room")

    def test_out_has_room_for_any_load(self):
        self.plant = read_plant("kind k -\ngate a\ndesk d to - by eldest from a")
        self.day = [(0, "a", "k", "")] * 200
        come = [f"0 come {good}" for good in range(200)]
        goods = " ".join(str(good) for good in range(200))
        self.assertEqual(self.state(*come, f"0 take d {goods}", f"1 put d {goods}"), ({"a": []}, {"d": None}))

    def test_the_first_entry_at_fault(self):
        self.assertEqual(self.fault("0 come 0", "0 take x 0", "0 come 0", "-1 come 1"), (1, "desk"))
        self.assertEqual(self.fault("0 come 0", "0 come 0", "0 take x 0"), (1, "good"))
        self.assertEqual(self.fault("0 come 0", "0 come 1", "0 take d 0", "0 take d 1", "-1 come 3"), (3, "busy"))

    def test_numbers_of_any_size(self):
        great = 10 ** 5000
        for entry, word in ((("come", 0, great), "good"), (("come", 0, -great), "good"), (("come", -great, 0), "time"),
                            (("spoil", great, great), "good"), (("take", great, "d", (great,)), "good"),
                            (("put", 0, "d", (-great,)), "good")):
            with self.assertRaises(BadBook) as taken:
                replayed(self.plant, self.day, [entry])
            self.assertEqual((taken.exception.place, taken.exception.word), (0, word))
            self.assertLess(len(str(taken.exception)), 100)
        told = replayed(self.plant, self.day, [("come", great, 0), ("take", great, "d", (0,))])
        self.assertEqual(told[1]["d"], ((0,), great + 3))


class Kept(Replays):
    """Point 1."""

    BOOK = Doing.COME + ["0 take d 0", "3 put d 0", "3 take d 1 2", "4 spoil 5", "5 take e 3 0"]

    def test_nothing_that_is_handed_in_is_changed(self):
        book = book_of(*self.BOOK)
        held, day, kept = fields_of(self.plant), list(self.day), list(book)
        first = replayed(self.plant, self.day, book)
        due = copy.deepcopy(first)
        spoil_parts(first)
        self.assertEqual(replayed(self.plant, self.day, book), due)
        self.assertEqual(fields_of(self.plant), held)
        self.assertEqual((self.day, book), (day, kept))

    def test_nor_where_it_is_refused(self):
        book = book_of(*self.BOOK, "9 come 0")
        held, day, kept = fields_of(self.plant), list(self.day), list(book)
        for count in range(2):
            with self.assertRaises(BadBook) as taken:
                replayed(self.plant, self.day, book)
            self.assertEqual((taken.exception.place, taken.exception.word), (len(self.BOOK), "good"))
        self.assertEqual(fields_of(self.plant), held)
        self.assertEqual((self.day, book), (day, kept))

    def test_no_two_lists_or_dicts_are_one(self):
        told = [self.state(*self.BOOK), self.state(*self.BOOK), self.state(), self.state()]
        parts = parts_of(told)
        self.assertEqual(len({id(part) for part in parts}), len(parts))
        # The list itself, and of each of the four two dicts and the lists of six places.
        self.assertEqual(len(parts), 1 + 4 * (2 + 6))


class Beginnings(unittest.TestCase):
    """Point 55."""

    def test_each_beginning_is_replayed_to_what_the_floor_holds_there(self):
        chance = random.Random(55)
        for count in range(120):
            plant = read_plant("\n".join(some_rows(chance)))
            day = some_day(chance, plant, chance.choice([3, 20]))
            floor, book = Floor(plant, day), []
            for t in range(25):
                book += floor.come(t) + floor.spoil(t)
                entry = ()
                while entry is not None:
                    self.assertEqual(replayed(plant, day, book), (floor.places_now(), floor.loads_now()))
                    entry = floor.act(t)
                    book += [entry] if entry is not None else []
            for run in (run_by_turns, run_by_events):
                self.assertEqual(run(plant, day, 24), book)

    def test_times_far_apart(self):
        chance = random.Random(56)
        for count in range(80):
            plant = read_plant("\n".join(some_rows(chance, 40)))
            day = some_day(chance, plant, 700)
            # Not all of it, as a ring that is never full acts on and on.
            floor, book = Floor(plant, day), run_by_events(plant, day, 2000)[:150]
            number = 0
            # Without the last time, at which the book may be cut off within what comes and spoils.
            for t in sorted({entry[1] for entry in book})[:-1]:
                number += len(floor.come(t) + floor.spoil(t))
                self.assertEqual(replayed(plant, day, book[:number]), (floor.places_now(), floor.loads_now()))
                while floor.act(t) is not None:
                    number += 1
                    self.assertEqual(replayed(plant, day, book[:number]), (floor.places_now(), floor.loads_now()))


if __name__ == "__main__":
    unittest.main()
