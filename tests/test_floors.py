"""Points 41 and 42, what point 51 says of `next_time`, and point 1 for them."""

import copy
import random
import unittest

from mergeline.floors import Floor
from mergeline.plants import open_at, read_plant, work_of
from mergeline.rules import load_of
from tests.helper import day_of, done_at, fields_of, parts_of, some_day, some_rows, spoil_parts


def floor_of(rows, *goods):
    """A floor of a plant's rows and goods written as in a day's text."""
    return Floor(read_plant("\n".join(rows)), day_of(*goods))


def done_to(floor, last):
    """All entries of the times from 0 to last."""
    return [entry for t in range(last + 1) for entry in done_at(floor, t)]


def acts_of(floor, last):
    return [entry for entry in done_to(floor, last) if entry[0] in ("take", "put")]


class Coming(unittest.TestCase):
    ROWS = ["kind k -", "kind m -", "gate a", "gate b", "line p 2"]

    def test_in_the_days_order_several_at_one_time(self):
        floor = floor_of(self.ROWS, "0 b k -", "0 a m -", "0 b m x", "2 a k -", "2 b k -", "3 a k -")
        self.assertEqual(floor.come(0), [("come", 0, 0), ("come", 0, 1), ("come", 0, 2)])
        self.assertEqual(floor.places_now(), {"a": [1], "b": [0, 2], "p": []})
        self.assertEqual(floor.come(1), [])
        self.assertEqual(floor.come(2), [("come", 2, 3), ("come", 2, 4)])
        self.assertEqual(floor.places_now(), {"a": [1, 3], "b": [0, 2, 4], "p": []})
        self.assertEqual(floor.come(3), [("come", 3, 5)])
        self.assertEqual(floor.places_now(), {"a": [1, 3, 5], "b": [0, 2, 4], "p": []})
        self.assertEqual(floor.come(4), [])

    def test_asked_again_at_the_same_time(self):
        floor = floor_of(self.ROWS, "4 a k -", "4 b k -", "5 a k -")
        self.assertEqual(floor.come(4), [("come", 4, 0), ("come", 4, 1)])
        for count in range(3):
            self.assertEqual(floor.come(4), [])
            self.assertEqual(floor.spoil(4), [])
        self.assertEqual(floor.places_now(), {"a": [0], "b": [1], "p": []})
        self.assertEqual(floor.come(5), [("come", 5, 2)])

    def test_times_without_goods_may_be_passed_over(self):
        floor = floor_of(self.ROWS, "7 a k -", "999999 a k -")
        self.assertEqual(floor.come(7), [("come", 7, 0)])
        self.assertEqual(floor.come(5000), [])
        self.assertEqual(floor.come(999999), [("come", 999999, 1)])

    def test_the_empty_day(self):
        floor = floor_of(self.ROWS)
        self.assertEqual(done_to(floor, 5), [])

    def test_a_gate_holds_any_number(self):
        floor = floor_of(self.ROWS, *["1 a k -"] * 200)
        self.assertEqual(len(floor.come(1)), 200)
        self.assertEqual(floor.places_now()["a"], list(range(200)))


class Spoiling(unittest.TestCase):
    def test_at_the_gate(self):
        floor = floor_of(["kind k 3", "kind l 1", "kind m -", "gate a", "gate b"],
                         "0 b k -", "0 a k -", "0 a m -", "2 b l -", "2 a k -")
        self.assertEqual(done_to(floor, 2), [("come", 0, 0), ("come", 0, 1), ("come", 0, 2), ("come", 2, 3),
                                             ("come", 2, 4)])
        self.assertEqual(floor.come(3), [])
        self.assertEqual(floor.spoil(3), [("spoil", 3, 0), ("spoil", 3, 1), ("spoil", 3, 3)])
        self.assertEqual(floor.spoil(3), [])
        self.assertEqual(floor.come(3), [])
        self.assertEqual(floor.places_now(), {"a": [2, 4], "b": []})
        self.assertEqual(floor.spoil(4), [])
        self.assertEqual(floor.spoil(999999), [("spoil", 999999, 4)])
        self.assertEqual(floor.places_now(), {"a": [2], "b": []})

    def test_a_spoilt_good_is_gone_for_good(self):
        floor = floor_of(["kind k 1", "gate a", "desk d to - by eldest from a", "open d 1 9"], "0 a k -", "1 a k -")
        self.assertEqual(done_to(floor, 2), [("come", 0, 0), ("come", 1, 1), ("spoil", 1, 0), ("take", 1, "d", (1,)),
                                             ("put", 2, "d", (1,))])

    def test_told_by_rising_numbers_whatever_their_places(self):
        floor = floor_of(["kind k 2", "gate a", "gate b", "gate c"], "0 c k -", "0 b k -", "0 a k -", "0 c k -")
        floor.come(0)
        self.assertEqual(floor.spoil(2), [("spoil", 2, good) for good in range(4)])

    def test_in_a_line_counted_from_the_coming_to_the_gate(self):
        floor = floor_of(["kind k 6", "gate a", "line p 2", "desk d to p by eldest from a", "time d k 2"], "1 a k -")
        self.assertEqual(done_to(floor, 6), [("come", 1, 0), ("take", 1, "d", (0,)), ("put", 3, "d", (0,))])
        self.assertEqual(floor.places_now(), {"a": [], "p": [0]})
        self.assertEqual(done_at(floor, 7), [("spoil", 7, 0)])
        self.assertEqual(floor.places_now(), {"a": [], "p": []})

    def test_not_in_a_load(self):
        floor = floor_of(["kind k 2", "gate a", "desk d to - by eldest from a", "time d k 5"], "0 a k -")
        self.assertEqual(done_to(floor, 9), [("come", 0, 0), ("take", 0, "d", (0,)), ("put", 5, "d", (0,))])

    def test_not_in_a_load_that_waits_for_room(self):
        floor = floor_of(["kind k 4", "kind m -", "gate a", "line p 1", "desk d to p by eldest from a"],
                         "0 a m -", "0 a k -")
        self.assertEqual(done_to(floor, 20)[2:], [("take", 0, "d", (0,)), ("put", 1, "d", (0,)), ("take", 1, "d", (1,))])
        self.assertEqual(floor.loads_now(), {"d": ((1,), 2)})

    def test_put_into_a_line_past_its_time_and_taken_at_that_time(self):
        rows = ["kind k 2", "gate a", "line p 1", "desk d to p by eldest from a", "desk e to - by eldest from p",
                "time d k 5"]
        for kept in (rows, rows[:3] + [rows[4], rows[3], rows[5]]):
            floor = floor_of(kept, "0 a k -")
            self.assertEqual(done_to(floor, 9)[2:], [("put", 5, "d", (0,)), ("take", 5, "e", (0,)), ("put", 6, "e", (0,))])

    def test_put_into_a_line_past_its_time_and_taken_away_at_the_next(self):
        rows = ["kind k 2", "gate a", "line p 1", "desk d to p by eldest from a", "time d k 5"]
        floor = floor_of(rows, "0 a k -")
        self.assertEqual(done_to(floor, 5)[2:], [("put", 5, "d", (0,))])
        self.assertEqual(floor.places_now()["p"], [0])
        self.assertEqual(floor.next_time(5), 6)
        self.assertEqual(done_at(floor, 6), [("spoil", 6, 0)])
        # The next time that is asked, where that is a later one.
        floor = floor_of(rows, "0 a k -")
        done_to(floor, 5)
        self.assertEqual(done_at(floor, 8), [("spoil", 8, 0)])

    def test_spoils_just_when_its_time_is_up_though_a_desk_could_take_it(self):
        rows = ["kind k 3", "gate a", "desk d to - by eldest from a"]
        self.assertEqual(acts_of(floor_of(rows + ["open d 2 9"], "0 a k -"), 9)[0], ("take", 2, "d", (0,)))
        self.assertEqual(acts_of(floor_of(rows + ["open d 3 9"], "0 a k -"), 9), [])


class Acting(unittest.TestCase):
    def test_where_no_desk_can(self):
        floor = floor_of(["kind k -", "gate a", "gate b", "desk d to - by eldest from a"], "0 b k -")
        floor.come(0)
        self.assertIsNone(floor.act(0))
        self.assertIsNone(floor_of([]).act(0))

    def test_the_first_desk_in_the_plants_order(self):
        floor = floor_of(["kind k -", "gate a", "gate b", "gate c", "desk z to - by eldest from b",
                          "desk a to - by eldest from c", "desk m to - by eldest from a"], "0 a k -", "0 b k -", "0 c k -")
        floor.come(0)
        floor.spoil(0)
        self.assertEqual(floor.act(0), ("take", 0, "z", (1,)))
        self.assertEqual(floor.act(0), ("take", 0, "a", (2,)))
        self.assertEqual(floor.act(0), ("take", 0, "m", (0,)))
        self.assertIsNone(floor.act(0))
        self.assertIsNone(floor.act(0))
        self.assertEqual([floor.act(1) for count in range(4)],
                         [("put", 1, "z", (1,)), ("put", 1, "a", (2,)), ("put", 1, "m", (0,)), None])

    def test_put_ahead_of_take_and_desk_by_desk_from_the_top(self):
        rows = ["kind k -", "gate a", "line p 3"]
        first = "desk d to p by eldest from a"
        second = "desk e to - by eldest from p"
        floor = floor_of(rows + [first, second], "0 a k -", "0 a k -")
        self.assertEqual(acts_of(floor, 2), [
            ("take", 0, "d", (0,)),
            ("put", 1, "d", (0,)), ("take", 1, "d", (1,)), ("take", 1, "e", (0,)),
            ("put", 2, "d", (1,)), ("put", 2, "e", (0,)), ("take", 2, "e", (1,)),
        ])
        floor = floor_of(rows + [second, first], "0 a k -", "0 a k -")
        self.assertEqual(acts_of(floor, 2), [
            ("take", 0, "d", (0,)),
            ("put", 1, "d", (0,)), ("take", 1, "e", (0,)), ("take", 1, "d", (1,)),
            ("put", 2, "e", (0,)), ("put", 2, "d", (1,)), ("take", 2, "e", (1,)),
        ])

    def test_an_earlier_desk_acts_again_behind_a_later_one(self):
        floor = floor_of(["kind k -", "gate a", "line p 1", "desk d to p by eldest from a", "desk e to - by eldest from p"],
                         "0 a k -", "0 a k -", "0 a k -")
        done_to(floor, 1)
        self.assertEqual(floor.places_now(), {"a": [2], "p": []})
        self.assertEqual(done_at(floor, 2), [("put", 2, "d", (1,)), ("take", 2, "d", (2,)), ("put", 2, "e", (0,)),
                                             ("take", 2, "e", (1,))])

    def test_a_load_done_without_room_and_room_later(self):
        rows = ["kind k -", "gate a", "line p 1", "desk d to p by eldest from a", "desk e to - by eldest from p",
                "time e k 5"]
        floor = floor_of(rows, "0 a k -", "0 a k -", "0 a k -")
        self.assertEqual(acts_of(floor, 8), [
            ("take", 0, "d", (0,)),
            ("put", 1, "d", (0,)), ("take", 1, "d", (1,)), ("take", 1, "e", (0,)),
            ("put", 2, "d", (1,)), ("take", 2, "d", (2,)),
            ("put", 6, "e", (0,)), ("take", 6, "e", (1,)), ("put", 6, "d", (2,)),
        ])

    def test_room_that_a_spoilt_good_leaves(self):
        floor = floor_of(["kind k 4", "kind m -", "gate a", "line p 1", "desk d to p by eldest from a"],
                         "0 a k -", "0 a m -")
        self.assertEqual(done_to(floor, 9)[2:], [
            ("take", 0, "d", (0,)), ("put", 1, "d", (0,)), ("take", 1, "d", (1,)), ("spoil", 4, 0), ("put", 4, "d", (1,)),
        ])

    def test_a_load_of_several_goods_put_in_its_order(self):
        rows = ["kind k -", "gate a", "gate b", "line p 4", "desk d to p by gather 3 9 from a b"]
        floor = floor_of(rows, "0 b k -", "1 a k -", "2 b k -")
        self.assertEqual(acts_of(floor, 3), [("take", 2, "d", (0, 1, 2)), ("put", 3, "d", (0, 1, 2))])
        self.assertEqual(floor.places_now(), {"a": [], "b": [], "p": [0, 1, 2]})
        floor = floor_of(rows, "1 b k -", "1 a k -", "1 b k -")
        self.assertEqual(acts_of(floor, 3), [("take", 1, "d", (1, 0, 2)), ("put", 2, "d", (1, 0, 2))])
        self.assertEqual(floor.places_now(), {"a": [], "b": [], "p": [1, 0, 2]})

    def test_room_for_some_of_a_load_is_not_enough(self):
        for room, due in ((3, None), (4, ("put", 3, "d", (1, 2)))):
            floor = floor_of(["kind k -", "gate a", "gate b", f"line p {room}", "desk d to p by many 2 from a",
                              "desk e to p by many 2 from b", "time d k 3"], "0 b k -", "0 a k -", "0 a k -", "0 b k -")
            done_to(floor, 2)
            self.assertEqual(floor.places_now()["p"], [0, 3])
            self.assertEqual(floor.act(3), due)
            self.assertEqual(floor.places_now()["p"], [0, 3] if due is None else [0, 3, 1, 2])
            self.assertEqual(floor.loads_now()["d"], ((1, 2), 3) if due is None else None)

    def test_room_for_some_and_later_for_all(self):
        floor = floor_of(["kind k -", "gate a", "line p 2", "desk d to p by many 2 from a", "desk e to - by eldest from p",
                          "time e k 4"], "0 a k -", "0 a k -", "0 a k -", "0 a k -")
        self.assertEqual(acts_of(floor, 5), [
            ("take", 0, "d", (0, 1)),
            ("put", 1, "d", (0, 1)), ("take", 1, "d", (2, 3)), ("take", 1, "e", (0,)),
            ("put", 5, "e", (0,)), ("take", 5, "e", (1,)), ("put", 5, "d", (2, 3)),
        ])
        self.assertEqual(floor.places_now(), {"a": [], "p": [2, 3]})

    def test_put_behind_those_that_wait_with_the_time_as_since(self):
        # Good 0 came first, but came into the line last: of the two places the desk's eldest is good 1.
        floor = floor_of(["kind k -", "kind m -", "gate a", "gate b", "line p 2", "desk d to p by eldest from a",
                          "desk e to - by eldest from p b", "time d k 4", "open e 5 99"], "0 a k -", "3 b m -", "4 b m -")
        self.assertEqual(acts_of(floor, 8)[1:], [
            ("put", 4, "d", (0,)), ("take", 5, "e", (1,)),
            ("put", 6, "e", (1,)), ("take", 6, "e", (0,)), ("put", 7, "e", (0,)), ("take", 7, "e", (2,)),
            ("put", 8, "e", (2,)),
        ])

    def test_a_desk_that_puts_into_the_line_from_which_it_takes(self):
        floor = floor_of(["kind k -", "gate a", "line p 1", "desk d to p by turns 1 1 from a p"], "0 a k -", "0 a k -")
        self.assertEqual(acts_of(floor, 3), [
            ("take", 0, "d", (0,)), ("put", 1, "d", (0,)), ("take", 1, "d", (0,)), ("put", 2, "d", (0,)),
            ("take", 2, "d", (1,)),
        ])

    def test_out_has_room_for_all(self):
        floor = floor_of(["kind k -", "gate a", "desk d to - by many 50 from a"], *["0 a k -"] * 50)
        goods = tuple(range(50))
        self.assertEqual(acts_of(floor, 1), [("take", 0, "d", goods), ("put", 1, "d", goods)])
        self.assertEqual((floor.places_now(), floor.loads_now()), ({"a": []}, {"d": None}))

    def test_fewer_acts_than_could_be_done(self):
        floor = floor_of(["kind k -", "gate a", "gate b", "desk d to - by eldest from a", "desk e to - by eldest from b"],
                         "0 a k -", "0 b k -", "3 a k -")
        floor.come(0)
        floor.spoil(0)
        self.assertEqual(floor.act(0), ("take", 0, "d", (0,)))
        floor.come(2)
        floor.spoil(2)
        self.assertEqual(floor.places_now(), {"a": [], "b": [1]})
        self.assertEqual(floor.come(3), [("come", 3, 2)])
        self.assertEqual(floor.spoil(3), [])
        self.assertEqual(floor.act(3), ("put", 3, "d", (0,)))
        self.assertEqual(floor.act(3), ("take", 3, "d", (2,)))
        floor.come(9)
        floor.spoil(9)
        self.assertEqual([floor.act(9) for count in range(3)],
                         [("put", 9, "d", (2,)), ("take", 9, "e", (1,)), None])


class Working(unittest.TestCase):
    def test_a_time_told_and_one_that_is_not(self):
        rows = ["kind k -", "kind m -", "gate a", "desk d to - by eldest from a", "time d k 3"]
        floor = floor_of(rows, "2 a k -", "2 a m -")
        self.assertEqual(acts_of(floor, 9), [("take", 2, "d", (0,)), ("put", 5, "d", (0,)), ("take", 5, "d", (1,)),
                                             ("put", 6, "d", (1,))])

    def test_the_greatest_work_of_several_kinds(self):
        rows = ["kind k -", "kind m -", "kind n -", "gate a", "desk d to - by gather 3 0 from a", "time d k 3",
                "time d m 7"]
        for kinds, end in (("kkk", 3), ("kmn", 7), ("nkn", 3), ("nnm", 7), ("nnn", 1), ("mkk", 7)):
            floor = floor_of(rows, *[f"0 a {kind} -" for kind in kinds])
            with self.subTest(kinds=kinds):
                self.assertEqual(acts_of(floor, 9), [("take", 0, "d", (0, 1, 2)), ("put", end, "d", (0, 1, 2))])

    def test_just_as_long_as_told(self):
        floor = floor_of(["kind k -", "gate a", "desk d to - by eldest from a", "time d k 4"], "1 a k -")
        done_at(floor, 1)
        self.assertEqual(floor.loads_now(), {"d": ((0,), 5)})
        self.assertIsNone(floor.act(4))
        self.assertEqual(floor.act(5), ("put", 5, "d", (0,)))

    def test_hours(self):
        floor = floor_of(["kind k -", "gate a", "desk d to - by eldest from a", "time d k 2", "open d 3 6", "open d 10 11"],
                         *["0 a k -"] * 5)
        self.assertEqual(acts_of(floor, 30), [
            ("take", 3, "d", (0,)), ("put", 5, "d", (0,)), ("take", 5, "d", (1,)), ("put", 7, "d", (1,)),
            ("take", 10, "d", (2,)), ("put", 12, "d", (2,)),
        ])

    def test_hours_count_for_each_desk_by_itself(self):
        floor = floor_of(["kind k -", "gate a", "gate b", "desk d to - by eldest from a", "desk e to - by eldest from b",
                          "open d 2 3"], "0 a k -", "0 b k -")
        self.assertEqual(acts_of(floor, 3), [("take", 0, "e", (1,)), ("put", 1, "e", (1,)), ("take", 2, "d", (0,)),
                                             ("put", 3, "d", (0,))])


class Ruling(unittest.TestCase):
    """All rules on a floor."""

    def takes(self, rule, places, goods, more=(), last=40):
        rows = ["kind k -", "kind m -", "gate a", "gate b", "gate c", f"desk d to - by {rule} from {places}"]
        floor = floor_of(rows + list(more), *goods)
        return [entry[1:2] + entry[3:] for entry in acts_of(floor, last) if entry[0] == "take"]

    def test_turns_are_kept_from_take_to_take(self):
        goods = ["0 a k -"] * 4 + ["0 b k -"] * 4
        told = self.takes("turns 2 1", "a b", goods)
        self.assertEqual([good for t, (good,) in told], [0, 1, 4, 2, 3, 5, 6, 7])
        told = self.takes("turns 1 3", "b a", goods)
        self.assertEqual([good for t, (good,) in told], [4, 0, 1, 2, 5, 3, 6, 7])

    def test_turns_are_kept_while_nothing_waits(self):
        told = self.takes("turns 2 1", "a b", ["0 a k -", "5 a k -", "5 a k -", "5 b k -", "9 a k -", "9 b k -"])
        self.assertEqual(told, [(0, (0,)), (5, (1,)), (6, (3,)), (7, (2,)), (9, (4,)), (10, (5,))])

    def test_each_desk_has_a_turn_of_its_own(self):
        rows = ["kind k -", "gate a", "gate b", "gate c", "gate d", "desk x to - by turns 1 1 from a b",
                "desk y to - by turns 1 1 from c d", "open y 1 99"]
        floor = floor_of(rows, *[f"0 {gate} k -" for gate in "aabbccdd"])
        takes = [entry[2:] for entry in acts_of(floor, 9) if entry[0] == "take"]
        self.assertEqual([goods for desk, goods in takes if desk == "x"], [(0,), (2,), (1,), (3,)])
        self.assertEqual([goods for desk, goods in takes if desk == "y"], [(4,), (6,), (5,), (7,)])

    def test_eldest(self):
        goods = ["0 b k -", "0 a k -", "1 b k -", "1 c k -", "2 a k -"]
        told = self.takes("eldest", "a c b", goods)
        self.assertEqual(told, [(0, (1,)), (1, (0,)), (2, (3,)), (3, (2,)), (4, (4,))])

    def test_rank(self):
        goods = ["0 b k -"] * 2 + [f"{t} a k -" for t in range(5)]
        self.assertEqual([good for t, (good,) in self.takes("rank -", "a b", goods)], [2, 3, 4, 5, 6, 0, 1])
        # Good 0 has waited for 3 at the time 3, and so has good 1 at the time 4.
        self.assertEqual([good for t, (good,) in self.takes("rank 3", "a b", goods)], [2, 3, 4, 0, 1, 5, 6])
        self.assertEqual([good for t, (good,) in self.takes("rank 0", "a b", goods)], [2, 0, 1, 3, 4, 5, 6])

    def test_many(self):
        goods = ["0 a k -", "1 b m -", "1 a k -", "2 a m -", "2 b k -", "2 a k -"]
        told = self.takes("many 2", "a b", goods, ["time d k 4"])
        self.assertEqual(told, [(0, (0,)), (4, (2, 5)), (8, (1, 3)), (9, (4,))])

    def test_gather(self):
        goods = ["0 a k -", "2 b m -", "3 a k -", "3 a k -", "20 a k -"]
        told = self.takes("gather 3 6", "a b", goods)
        self.assertEqual(told, [(3, (0, 1, 2)), (9, (3,)), (26, (4,))])

    def test_meet(self):
        goods = ["0 a k x", "0 b k -", "1 a k y", "2 b k y", "2 b k y", "3 b k x", "4 a k y", "9 a k -"]
        told = self.takes("meet", "b a", goods)
        self.assertEqual(told, [(2, (3, 2)), (3, (5, 0)), (4, (4, 6))])

    def test_meet_goes_on_together(self):
        rows = ["kind k -", "gate a", "gate b", "line p 2", "line q 2", "desk d to p by meet from a b",
                "desk e to q by many 2 from p"]
        floor = floor_of(rows, "0 a k x", "1 b k x")
        self.assertEqual(acts_of(floor, 5), [("take", 1, "d", (0, 1)), ("put", 2, "d", (0, 1)), ("take", 2, "e", (0, 1)),
                                             ("put", 3, "e", (0, 1))])

    def test_rules_at_lines_reckon_from_the_time_of_the_put(self):
        rows = ["kind k -", "gate a", "line p 3", "desk d to p by eldest from a", "desk e to - by gather 2 4 from p",
                "time d k 3"]
        self.assertEqual(acts_of(floor_of(rows, "0 a k -"), 12)[1:],
                         [("put", 3, "d", (0,)), ("take", 7, "e", (0,)), ("put", 8, "e", (0,))])


class Telling(unittest.TestCase):
    """Point 42."""

    ROWS = ["kind k -", "line p 2", "gate b", "line o 1", "desk e to p by eldest from b", "gate a",
            "desk d to - by many 2 from p", "line q 1", "time e k 2", "time d k 9"]

    def test_all_places_gates_first_and_all_desks(self):
        floor = floor_of(self.ROWS)
        self.assertEqual(list(floor.places_now().items()), [("b", []), ("a", []), ("p", []), ("o", []), ("q", [])])
        self.assertEqual(list(floor.loads_now().items()), [("e", None), ("d", None)])
        self.assertEqual((floor_of([]).places_now(), floor_of([]).loads_now()), ({}, {}))

    def test_behind_each_deed(self):
        floor = floor_of(self.ROWS, "0 b k -", "0 a k -", "0 b k -")
        floor.come(0)
        self.assertEqual(floor.places_now(), {"b": [0, 2], "a": [1], "p": [], "o": [], "q": []})
        floor.act(0)
        self.assertEqual(floor.places_now(), {"b": [2], "a": [1], "p": [], "o": [], "q": []})
        self.assertEqual(floor.loads_now(), {"e": ((0,), 2), "d": None})
        floor.act(2)
        self.assertEqual(floor.places_now(), {"b": [2], "a": [1], "p": [0], "o": [], "q": []})
        self.assertEqual(floor.loads_now(), {"e": None, "d": None})
        floor.act(2)
        floor.act(2)
        self.assertEqual(floor.loads_now(), {"e": ((2,), 4), "d": ((0,), 11)})
        self.assertEqual(list(floor.places_now()), ["b", "a", "p", "o", "q"])

    def test_the_order_stays_behind_many_deeds(self):
        floor = floor_of(self.ROWS, "0 a k -", "0 b k -", "3 b k -")
        done_to(floor, 20)
        self.assertEqual(list(floor.places_now()), ["b", "a", "p", "o", "q"])
        self.assertEqual(list(floor.loads_now()), ["e", "d"])

    def test_kinds_of_what_is_told(self):
        floor = floor_of(self.ROWS, "0 b k -", "1 a k -")
        self.assertIs(type(floor.come(0)), list)
        self.assertIs(type(floor.spoil(0)), list)
        entry = floor.act(0)
        self.assertIs(type(entry), tuple)
        self.assertIs(type(entry[3]), tuple)
        load = floor.loads_now()["e"]
        self.assertEqual((type(load), type(load[0])), (tuple, tuple))
        self.assertTrue(all(type(goods) is list for goods in floor.places_now().values()))
        self.assertTrue(all(type(one) is tuple for one in floor.come(1)))

    def test_what_was_told_stays_as_it_was(self):
        floor = floor_of(self.ROWS, "0 b k -", "0 a k -", "1 b k -")
        told = [floor.come(0), floor.spoil(0), floor.places_now(), floor.loads_now()]
        kept = copy.deepcopy(told)
        done_to(floor, 20)
        self.assertEqual(told, kept)

    def test_changing_what_was_told_changes_nothing(self):
        goods = ["0 b k -", "0 a k -", "1 b k -", "1 b k -", "4 a k -"]
        floor = floor_of(self.ROWS, *goods)
        plain = floor_of(self.ROWS, *goods)
        for t in range(20):
            for deed in ("come", "spoil"):
                told = getattr(floor, deed)(t)
                self.assertEqual(told, getattr(plain, deed)(t))
                spoil_parts(told)
            entry = plain.act(t)
            self.assertEqual(floor.act(t), entry)
            while entry is not None:
                spoil_parts((floor.places_now(), floor.loads_now()))
                self.assertEqual((floor.places_now(), floor.loads_now()), (plain.places_now(), plain.loads_now()))
                entry = plain.act(t)
                self.assertEqual(floor.act(t), entry)
            self.assertEqual(floor.next_time(t), plain.next_time(t))

    def test_no_two_lists_or_dicts_are_one(self):
        floor = floor_of(self.ROWS, "0 b k -", "0 a k -")
        told = [floor.come(0), floor.come(0), floor.spoil(0), floor.spoil(0), floor.places_now(), floor.places_now(),
                floor.loads_now(), floor.loads_now()]
        parts = parts_of(told)
        self.assertEqual(len(parts), 1 + 8 + 2 * 5)
        self.assertEqual(len({id(part) for part in parts}), len(parts))


class NextTime(unittest.TestCase):
    """Point 51."""

    def check_times(self, floor, due):
        """Each time at which something is done tells the next one."""
        now = -1
        told = []
        while now is not None and len(told) <= len(due):
            now = floor.next_time(now)
            told.append(now)
            if now is not None:
                self.assertNotEqual(done_at(floor, now), [])
        self.assertEqual(told, due)

    def test_a_new_floor(self):
        rows = ["kind k -", "gate a"]
        self.assertIsNone(floor_of(rows).next_time(-1))
        self.assertIsNone(floor_of([]).next_time(-1))
        self.assertEqual(floor_of(rows, "0 a k -").next_time(-1), 0)
        self.assertEqual(floor_of(rows, "7 a k -", "9 a k -").next_time(-1), 7)

    def test_the_next_coming(self):
        self.check_times(floor_of(["kind k -", "gate a"], "0 a k -", "0 a k -", "5 a k -", "999999 a k -"),
                         [0, 5, 999999, None])

    def test_the_next_spoiling(self):
        rows = ["kind k 4", "kind m 2", "kind n -", "gate a", "gate b"]
        self.check_times(floor_of(rows, "1 a k -", "1 b n -", "2 b m -", "9 a k -"), [1, 2, 4, 5, 9, 13, None])

    def test_the_end_of_a_work(self):
        rows = ["kind k -", "gate a", "line p 1", "desk d to p by eldest from a", "time d k 6"]
        self.check_times(floor_of(rows, "2 a k -"), [2, 8, None])
        self.check_times(floor_of([row.replace("to p", "to -") for row in rows], "2 a k -", "3 a k -"),
                         [2, 3, 8, 14, None])

    def test_a_load_that_waits_for_room_alone(self):
        rows = ["kind k -", "gate a", "line p 1", "desk d to p by eldest from a", "time d k 2"]
        floor = floor_of(rows, "0 a k -", "0 a k -")
        self.check_times(floor, [0, 2, None])
        self.assertEqual(floor.loads_now(), {"d": ((1,), 4)})
        self.assertIsNone(floor.next_time(3))
        self.assertIsNone(floor.next_time(4))
        self.assertIsNone(floor.next_time(900))

    def test_room_that_comes_by_a_spoiling_or_by_another_desk(self):
        rows = ["kind k -", "kind m 7", "gate a", "line p 1", "desk d to p by eldest from a", "time d k 2"]
        self.check_times(floor_of(rows, "0 a m -", "0 a k -"), [0, 1, 7, None])
        rows += ["desk e to - by eldest from p", "time e k 8"]
        self.check_times(floor_of(rows, *["0 a k -"] * 3), [0, 2, 4, 10, 18, 26, None])

    def test_a_good_put_into_a_line_past_its_time(self):
        rows = ["kind k 2", "gate a", "line p 1", "desk d to p by eldest from a", "time d k 5"]
        self.check_times(floor_of(rows, "0 a k -"), [0, 5, 6, None])

    def test_the_begin_of_hours(self):
        rows = ["kind k -", "gate a", "desk d to - by eldest from a", "open d 20 21", "open d 5 8", "open d 6 9"]
        self.check_times(floor_of(rows, "0 a k -"), [0, 5, 6, None])
        self.check_times(floor_of(rows, "8 a k -", "8 a k -", "8 a k -"), [8, 9, 20, 21, None])
        self.check_times(floor_of(rows, "30 a k -"), [30, None])
        self.check_times(floor_of(rows), [None])

    def test_the_begin_of_hours_is_none_where_nothing_waits(self):
        rows = ["kind k -", "gate a", "gate b", "desk d to - by eldest from a", "open d 5 8"]
        self.check_times(floor_of(rows, "0 b k -"), [0, None])
        rows = ["kind k -", "gate a", "gate b", "desk d to - by meet from a b", "open d 5 8"]
        self.check_times(floor_of(rows, "0 a k x", "0 b k y"), [0, None])
        self.check_times(floor_of(rows, "0 a k x", "0 b k x"), [0, 5, 6, None])

    def test_hours_let_a_desk_take_but_it_puts_at_any_time(self):
        rows = ["kind k -", "gate a", "desk d to - by eldest from a", "time d k 4", "open d 0 2"]
        self.check_times(floor_of(rows, "1 a k -", "1 a k -"), [1, 5, None])

    def test_the_age_of_a_gather(self):
        rows = ["kind k -", "gate a", "gate b", "desk d to - by gather 3 6 from a b"]
        self.check_times(floor_of(rows, "2 b k -", "4 a k -"), [2, 4, 8, 9, None])
        self.check_times(floor_of(rows, "2 b k -", "4 a k -", "5 a k -", "5 b k -"), [2, 4, 5, 6, 11, 12, None])

    def test_the_age_of_a_gather_and_hours(self):
        rows = ["kind k -", "gate a", "desk d to - by gather 3 6 from a"]
        for hours, due in ((["open d 0 5", "open d 7 9"], 8), (["open d 0 8", "open d 12 13"], 12), (["open d 10 11"], 10),
                           (["open d 0 8"], None), (["open d 0 8", "open d 8 9"], 8)):
            floor = floor_of(rows + hours, "2 a k -")
            done_at(floor, 2)
            with self.subTest(hours=hours):
                self.assertEqual(floor.next_time(2), due)

    def test_the_age_of_a_gather_ahead_of_which_the_eldest_spoils(self):
        rows = ["kind k 4", "kind m -", "gate a", "desk d to - by gather 3 6 from a"]
        self.check_times(floor_of(rows, "0 a k -", "2 a m -"), [0, 2, 4, 8, 9, None])

    def test_the_bound_of_a_rank_tells_no_time_of_its_own(self):
        rows = ["kind k -", "gate a", "gate b", "desk d to - by rank 3 from a b", "time d k 10"]
        self.check_times(floor_of(rows, "0 a k -", "1 b k -"), [0, 1, 10, 20, None])
        self.check_times(floor_of(rows + ["open d 7 8"], "0 b k -"), [0, 7, 17, None])

    def test_asked_at_a_time_at_which_nothing_was_to_be_done(self):
        floor = floor_of(["kind k 9", "gate a", "desk d to - by gather 2 6 from a", "open d 7 99"], "2 a k -", "20 a k -")
        done_at(floor, 2)
        for now in range(2, 8):
            self.assertEqual(done_at(floor, now), [])
            self.assertEqual(floor.next_time(now), 8)

    def test_asking_changes_nothing(self):
        rows = ["kind k 9", "gate a", "gate b", "line p 2", "desk d to p by turns 2 1 from a b", "desk e to - by rank 2 from p",
                "time d k 2"]
        goods = [f"{t} {gate} k -" for t in range(5) for gate in "abb"]
        asked, plain = floor_of(rows, *goods), floor_of(rows, *goods)
        asked.next_time(-1)
        for t in range(30):
            self.assertEqual(done_at(asked, t), done_at(plain, t))
            self.assertEqual(asked.next_time(t), asked.next_time(t))


class HandedIn(unittest.TestCase):
    """Point 1."""

    def test_the_plant_and_the_day_are_the_same_behind_the_asking(self):
        chance = random.Random(1)
        for count in range(20):
            plant = read_plant("\n".join(some_rows(chance)))
            day = some_day(chance, plant)
            held, kept = fields_of(plant), list(day)
            floor = Floor(plant, day)
            for t in range(40):
                done_at(floor, t)
                floor.next_time(t)
                spoil_parts((floor.places_now(), floor.loads_now()))
            self.assertEqual(fields_of(plant), held)
            self.assertEqual(day, kept)

    def test_the_day_may_be_changed_later(self):
        plant = read_plant("kind k 3\ngate a\nline p 2\ndesk d to p by eldest from a")
        day = [(0, "a", "k", ""), (2, "a", "k", "")]
        floor, plain = Floor(plant, day), Floor(plant, list(day))
        day.append((3, "a", "k", ""))
        day[1] = (1, "a", "k", "x")
        self.assertEqual(done_at(floor, 0), done_at(plain, 0))
        day.clear()
        self.assertEqual([done_at(floor, t) for t in range(1, 9)], [done_at(plain, t) for t in range(1, 9)])

    def test_two_floors_of_one_plant_and_day_are_apart(self):
        plant = read_plant("kind k -\ngate a\nline p 2\ndesk d to p by turns 1 1 from a p")
        day = [(0, "a", "k", ""), (0, "a", "k", "")]
        one, other = Floor(plant, day), Floor(plant, day)
        first = done_to(one, 5)
        self.assertEqual((other.places_now(), other.loads_now()), ({"a": [], "p": []}, {"d": None}))
        self.assertEqual(done_to(other, 5), first)


class Model:
    """A floor once more, as point 41 tells it: each good has a state, and all else is reckoned from these."""

    def __init__(self, plant, day):
        self.plant = plant
        self.day = day
        # What was done last stands behind: a good's stand is (its place, since, a rising number).
        self.stands = {}
        self.holds = {desk[0]: None for desk in plant.desks}
        self.turns = {desk[0]: (0, 0) for desk in plant.desks}
        self.deeds = 0

    def stand(self, good, place, t):
        self.deeds += 1
        self.stands[good] = (place, t, self.deeds)

    def row(self, place):
        found = [(stand[2], good, stand[1]) for good, stand in self.stands.items() if stand[0] == place]
        return [(good, since) + self.day[good][2:] for deed, good, since in sorted(found)]

    def come(self, t):
        told = [number for number, good in enumerate(self.day) if good[0] == t]
        for number in told:
            self.stand(number, self.day[number][1], t)
        return [("come", t, number) for number in told]

    def spoil(self, t):
        told = []
        for good in sorted(self.stands):
            keep = self.plant.kinds[self.day[good][2]]
            if keep is not None and t >= self.day[good][0] + keep:
                told.append(("spoil", t, good))
                self.stands.pop(good)
        return told

    def puts(self, name, to, t):
        if self.holds[name] is None or t < self.holds[name][1]:
            return False
        return to == "" or len(self.row(to)) + len(self.holds[name][0]) <= self.plant.lines[to]

    def act(self, t):
        for name, to, rule, places in self.plant.desks:
            if self.puts(name, to, t):
                goods = self.holds[name][0]
                self.holds[name] = None
                for good in goods:
                    if to != "":
                        self.stand(good, to, t)
                return ("put", t, name, goods)
            rows = [self.row(place) for place in places]
            load, turn = load_of(rule, rows, self.turns[name], t)
            if self.holds[name] is None and open_at(self.plant, name, t) and load:
                goods = tuple(rows[place][number][0] for place, number in load)
                work = max(work_of(self.plant, name, self.day[good][2]) for good in goods)
                self.turns[name] = turn
                self.holds[name] = (goods, t + work)
                for good in goods:
                    self.stands.pop(good)
                return ("take", t, name, goods)
        return None

    def places_now(self):
        return {place: [one[0] for one in self.row(place)] for place in self.plant.gates + list(self.plant.lines)}


class AnyFloor(unittest.TestCase):
    def each(self, seed, many=120):
        chance = random.Random(seed)
        for count in range(many):
            plant = read_plant("\n".join(some_rows(chance)))
            yield chance, plant, some_day(chance, plant)

    def test_against_the_model(self):
        for chance, plant, day in self.each(41):
            floor, model = Floor(plant, day), Model(plant, day)
            most = chance.choice([0, 1, 2, 99, 99, 99])
            for t in range(45):
                self.assertEqual(floor.come(t), model.come(t))
                self.assertEqual(floor.spoil(t), model.spoil(t))
                for count in range(most):
                    entry = model.act(t)
                    self.assertEqual(floor.act(t), entry)
                    if entry is None:
                        break
                self.assertEqual(floor.places_now(), model.places_now())
                self.assertEqual(floor.loads_now(), model.holds)

    def test_each_desk_puts_and_takes_at_most_once_at_a_time(self):
        for chance, plant, day in self.each(43, 60):
            floor = Floor(plant, day)
            for t in range(45):
                acts = [(entry[0], entry[2]) for entry in done_at(floor, t) if entry[0] in ("put", "take")]
                self.assertEqual(len(set(acts)), len(acts))

    def test_no_line_holds_more_than_its_room_and_no_good_is_lost(self):
        for chance, plant, day in self.each(42, 60):
            floor = Floor(plant, day)
            gone = set()
            for t in range(45):
                for entry in done_at(floor, t):
                    if entry[0] == "spoil":
                        gone.add(entry[2])
                    if entry[0] == "put" and [desk for desk in plant.desks if desk[0] == entry[2]][0][1] == "":
                        gone.update(entry[3])
                places, loads = floor.places_now(), floor.loads_now()
                for line, room in plant.lines.items():
                    self.assertLessEqual(len(places[line]), room)
                held = [good for goods in places.values() for good in goods]
                held += [good for load in loads.values() if load for good in load[0]]
                came = [number for number, good in enumerate(day) if good[0] <= t]
                self.assertCountEqual(held + list(gone), came)

    def test_next_time_is_the_first_at_which_something_is_done(self):
        last = 60
        for chance, plant, day in self.each(51):
            floor = Floor(plant, day)
            # All times at which something is done, turn by turn: each of them tells the next.
            turns = Floor(plant, day)
            due = [t for t in range(last) if done_at(turns, t)]
            now = -1
            told = []
            while now is not None and now < last:
                now = floor.next_time(now)
                told.append(now)
                if now is not None:
                    self.assertNotEqual(done_at(floor, now), [])
            self.assertEqual([t for t in told if t is not None and t < last], due)

    def test_next_time_asked_at_every_time(self):
        for chance, plant, day in self.each(52, 60):
            floor = Floor(plant, day)
            told = {-1: floor.next_time(-1)}
            done = []
            for t in range(60):
                if done_at(floor, t):
                    done.append(t)
                told[t] = floor.next_time(t)
            for now in range(-1, 40):
                later = [t for t in done if t > now]
                if later:
                    self.assertEqual(told[now], later[0])
                else:
                    self.assertTrue(told[now] is None or told[now] >= 60)


if __name__ == "__main__":
    unittest.main()
