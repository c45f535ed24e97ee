"""Point 63, and point 1 for it."""

import copy
import random
import unittest

from mergeline.books import replayed
from mergeline.plants import read_plant
from mergeline.running import run_by_events, run_by_turns
from mergeline.waits import longest, waits_of
from tests.helper import book_of, day_of, fields_of, parts_of, some_day, some_rows, spoil_parts


class Stays(unittest.TestCase):
    """Point 63: the stays of each good."""

    PLANT = read_plant("\n".join([
        "kind k -", "kind m 5", "gate a", "gate b", "line p 2", "line q 1",
        "desk e to q by eldest from p", "desk d to p by many 2 from a b", "desk f to - by eldest from q", "time d k 3",
    ]))
    DAY = day_of("0 a k -", "0 b k -", "2 a m -", "9 b k -")

    def check(self, rows, *due):
        book = book_of(*rows)
        replayed(self.PLANT, self.DAY, book)
        self.assertEqual(waits_of(self.PLANT, self.DAY, book), list(due))

    def test_an_empty_book(self):
        self.check([], [], [], [], [])

    def test_an_empty_day(self):
        self.assertEqual(waits_of(self.PLANT, [], []), [])
        self.assertEqual(waits_of(read_plant(""), [], []), [])

    def test_left_waiting_and_never_come(self):
        self.check(["0 come 1", "2 come 2"], [], [("b", 0, None)], [("a", 2, None)], [])

    def test_taken(self):
        self.check(["0 come 0", "0 come 1", "4 take d 1"], [("a", 0, None)], [("b", 0, 4)], [], [])

    def test_a_load_of_several(self):
        self.check(["0 come 0", "1 come 1", "4 take d 1 0"], [("a", 0, 4)], [("b", 1, 4)], [], [])
        self.check(["0 come 0", "1 come 1", "4 take d 1 0", "7 put d 1 0"],
                   [("a", 0, 4), ("p", 7, None)], [("b", 1, 4), ("p", 7, None)], [], [])

    def test_a_stay_of_0(self):
        self.check(["0 come 0", "0 take d 0"], [("a", 0, 0)], [], [], [])
        self.check(["0 come 0", "0 take d 0", "3 put d 0", "3 take e 0"], [("a", 0, 0), ("p", 3, 3)], [], [], [])
        self.check(["6 come 2", "6 spoil 2"], [], [], [("a", 6, 6)], [])

    def test_spoilt(self):
        self.check(["2 come 2", "7 spoil 2"], [], [], [("a", 2, 7)], [])
        self.check(["2 come 2", "3 take d 2", "4 put d 2", "9 spoil 2"], [], [], [("a", 2, 3), ("p", 4, 9)], [])

    def test_a_book_that_ends_between_a_take_and_its_put(self):
        rows = ["0 come 0", "1 take d 0", "4 put d 0", "6 take e 0"]
        self.check(rows[:2], [("a", 0, 1)], [], [], [])
        self.check(rows, [("a", 0, 1), ("p", 4, 6)], [], [], [])

    def test_through_several_lines_and_out(self):
        rows = ["0 come 0", "1 take d 0", "4 put d 0", "6 take e 0", "7 put e 0", "7 take f 0", "8 put f 0", "9 come 3"]
        due = [("a", 0, 1), ("p", 4, 6), ("q", 7, 7)]
        self.check(rows[:3], due[:1] + [("p", 4, None)], [], [], [])
        self.check(rows[:5], due[:2] + [("q", 7, None)], [], [], [])
        self.check(rows[:6], due, [], [], [])
        self.check(rows, due, [], [], [("b", 9, None)])

    def test_twice_in_one_line(self):
        plant = read_plant("kind k -\ngate a\nline p 1\ndesk d to p by eldest from a p")
        book = book_of("1 come 0", "2 take d 0", "3 put d 0", "5 take d 0", "6 put d 0", "9 take d 0")
        self.assertEqual(waits_of(plant, day_of("1 a k -"), book), [[("a", 1, 2), ("p", 3, 5), ("p", 6, 9)]])

    def test_times_are_those_of_the_book(self):
        # When a good comes or spoils is not looked at.
        self.check(["5 come 3", "6 come 0", "6 spoil 0", "8 spoil 3"], [("a", 6, 6)], [], [], [("b", 5, 8)])

    def test_what_is_told_is_of_lists_and_tuples(self):
        told = waits_of(self.PLANT, self.DAY, book_of("0 come 0"))
        self.assertIs(type(told), list)
        self.assertTrue(all(type(stays) is list for stays in told))
        self.assertIs(type(told[0][0]), tuple)

    def test_what_a_replay_leaves_is_what_waits(self):
        chance = random.Random(63)
        for count in range(80):
            plant = read_plant("\n".join(some_rows(chance)))
            day = some_day(chance, plant, chance.choice([3, 20]))
            book = chance.choice([run_by_turns, run_by_events])(plant, day, 40)
            end = chance.randint(0, len(book))
            ahead = replayed(plant, day, book[:end])[0]
            waits = waits_of(plant, day, book[:end])
            self.assertEqual(len(waits), len(day))
            for number, stays in enumerate(waits):
                due = [place for place, goods in ahead.items() if number in goods]
                self.assertEqual([stay[0] for stay in stays if stay[2] is None], due)
                self.assertTrue(all(stay[2] is not None for stay in stays[:-1]))
                self.assertEqual([stay[0] for stay in stays[:1]], [day[number][1]] if stays else [])

    def test_each_stay_is_told_by_two_entries(self):
        chance = random.Random(64)
        for count in range(80):
            plant = read_plant("\n".join(some_rows(chance)))
            day = some_day(chance, plant, chance.choice([3, 20]))
            book = run_by_events(plant, day, 40)
            lines = {desk[0]: desk[1] for desk in plant.desks}
            for number, stays in enumerate(waits_of(plant, day, book)):
                begins, ends = [], []
                for entry in book:
                    if entry == ("come", entry[1], number):
                        begins.append((day[number][1], entry[1]))
                    elif entry[0] == "put" and number in entry[3] and lines[entry[2]] != "":
                        begins.append((lines[entry[2]], entry[1]))
                    elif (entry[0] == "take" and number in entry[3]) or entry == ("spoil", entry[1], number):
                        ends.append(entry[1])
                self.assertEqual([stay[:2] for stay in stays], begins)
                self.assertEqual([stay[2] for stay in stays if stay[2] is not None], ends)


class Longest(unittest.TestCase):
    """Point 63: the greatest stay."""

    def test_none(self):
        for waits in ([], [[]], [[], [], []]):
            for until in (0, 7, 2000):
                self.assertEqual(longest(waits, until), 0)

    def test_stays_that_are_ended(self):
        self.assertEqual(longest([[("a", 2, 9)], [("b", 4, 5)]], 20), 7)
        self.assertEqual(longest([[("b", 4, 5)], [], [("a", 2, 3), ("p", 7, 19), ("q", 19, 20)]], 20), 12)

    def test_stays_of_0_alone(self):
        self.assertEqual(longest([[("a", 3, 3)], [("b", 8, 8)]], 20), 0)

    def test_stays_that_are_left(self):
        self.assertEqual(longest([[("a", 2, None)]], 20), 18)
        self.assertEqual(longest([[("a", 2, None)], [("a", 1, 5)]], 5), 4)
        self.assertEqual(longest([[("a", 2, None)], [("a", 1, 5)]], 6), 4)
        self.assertEqual(longest([[("a", 2, None)], [("a", 1, 5)]], 7), 5)
        self.assertEqual(longest([[("a", 0, 6), ("p", 8, None)]], 13), 6)
        self.assertEqual(longest([[("a", 0, 6), ("p", 8, None)]], 15), 7)

    def test_left_at_the_end_itself(self):
        self.assertEqual(longest([[("a", 20, None)]], 20), 0)
        self.assertEqual(longest([[("a", 0, None)]], 0), 0)

    def test_of_a_run(self):
        plant = read_plant("kind k -\ngate a\ndesk d to - by eldest from a\ntime d k 4")
        day = day_of(*["1 a k -"] * 5)
        for until, due in ((0, 0), (1, 0), (2, 1), (5, 4), (9, 8), (16, 15), (17, 16), (18, 16), (50, 16)):
            self.assertEqual(longest(waits_of(plant, day, run_by_events(plant, day, until)), until), due)


class Kept(unittest.TestCase):
    """Point 1."""

    def test_nothing_that_is_handed_in_is_changed(self):
        chance = random.Random(1)
        for count in range(40):
            plant = read_plant("\n".join(some_rows(chance)))
            day = some_day(chance, plant)
            book = run_by_events(plant, day, 40)
            held = (fields_of(plant), list(day), list(book))
            waits = waits_of(plant, day, book)
            due = copy.deepcopy(waits)
            most = longest(waits, 40)
            self.assertEqual(waits, due)
            self.assertEqual(longest(waits, 40), most)
            spoil_parts(waits)
            self.assertEqual(waits_of(plant, day, book), due)
            self.assertEqual((fields_of(plant), day, book), held)

    def test_no_two_lists_are_one(self):
        told = [waits_of(Stays.PLANT, Stays.DAY, book_of(*rows)) for rows in ([], [], ["0 come 0"], ["0 come 0"])]
        parts = parts_of(told)
        self.assertEqual(len({id(part) for part in parts}), len(parts))
        self.assertEqual(len(parts), 1 + 4 * (1 + 4))


if __name__ == "__main__":
    unittest.main()
