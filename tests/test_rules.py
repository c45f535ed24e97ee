"""Points 31, 32 and 33, and point 1 for them."""

import copy
import random
import unittest

from mergeline.rules import greatest_load, load_of

START = (0, 0)
RULES = (
    ("turns", (1, 2, 3, 1, 9, 4)),
    ("eldest",),
    ("rank", None),
    ("rank", 3),
    ("many", 2),
    ("gather", 3, 4),
    ("meet",),
)


def good(number, since=0, kind="k", parcel=""):
    return (number, since, kind, parcel)


def goods(*numbers):
    return [good(number) for number in numbers]


def without(rows, load):
    """The rows behind the taking of a load."""
    left = []
    for place, row in enumerate(rows):
        left.append([one for number, one in enumerate(row) if (place, number) not in load])
    return left


def numbers_of(rows, load):
    return [rows[place][number][0] for place, number in load]


class Draining(unittest.TestCase):
    def drained(self, rule, rows, turn=START, now=10):
        """The loads, as the goods' numbers, until nothing is taken; what is left; the turn behind each load."""
        loads = []
        turns = []
        while True:
            load, behind = load_of(rule, rows, turn, now)
            if load == []:
                self.assertEqual(behind, turn)
                self.assertEqual(load_of(rule, rows, turn, now), ([], turn))
                return loads, rows, turns
            self.assertEqual(len(set(load)), len(load))
            loads.append(numbers_of(rows, load))
            rows = without(rows, load)
            turn = behind
            turns.append(turn)

    def loads(self, rule, rows, now=10, turn=START):
        """The loads until all is taken; the turn is left as it is."""
        loads, left, turns = self.drained(rule, rows, turn, now)
        self.assertEqual(left, [[] for row in rows])
        self.assertEqual(turns, [turn] * len(loads))
        return loads


class AllRules(unittest.TestCase):
    def test_where_nothing_waits_nothing_is_taken_and_the_turn_stays(self):
        for rule in RULES + (("rank", 0), ("gather", 1, 0), ("many", 1)):
            for many in (1, 2, 6):
                for turn in (START, (many - 1, 0), (many - 1, 1), (0, 1)):
                    with self.subTest(rule=rule, many=many, turn=turn):
                        self.assertEqual(load_of(rule, [[] for place in range(many)], turn, 5), ([], turn))

    def test_all_rules_but_turns_leave_the_turn_as_it_is(self):
        rows = [[good(0, 1, "a", "p")], [good(1, 2, "b", "p")], [good(2, 1, "a", "p")]]
        for rule in RULES[1:]:
            for turn in (START, (2, 0), (1, 4), (2, 9)):
                with self.subTest(rule=rule, turn=turn):
                    load, behind = load_of(rule, rows, turn, 5)
                    self.assertNotEqual(load, [])
                    self.assertEqual(behind, turn)

    def test_kinds_of_what_is_told(self):
        rows = [[good(0, 0, "k", "p")], [good(1, 0, "k", "p")]]
        for rule in RULES:
            for asked in (rows, [[], []]):
                with self.subTest(rule=rule, rows=asked):
                    told = load_of(rule, asked, START, 9)
                    self.assertEqual([type(part) for part in told], [list, tuple])
                    self.assertIs(type(told), tuple)
                    self.assertTrue(all(type(spot) is tuple for spot in told[0]))

    def test_what_is_handed_in_is_not_changed(self):
        rows = [[good(0, 2, "a", "p"), good(1, 3, "b", "q")], [good(2, 1, "b", "q")], [good(3, 1, "a", "q")]]
        for rule in RULES:
            with self.subTest(rule=rule):
                held = copy.deepcopy((rule, rows))
                load_of(rule, rows, START, 9)
                greatest_load(rule, 3)
                self.assertEqual((rule, rows), held)

    def test_what_is_told_is_the_askers_own(self):
        rows = [[good(0, 2, "a", "p")], [good(1, 1, "a", "p")]]
        for rule in RULES:
            for asked in (rows, [[], []]):
                with self.subTest(rule=rule, rows=asked):
                    held = copy.deepcopy(asked)
                    first = load_of(rule, asked, START, 9)
                    kept = copy.deepcopy(first)
                    first[0].append("x")
                    first[0].reverse()
                    second = load_of(rule, asked, START, 9)
                    self.assertEqual(second, kept)
                    self.assertIsNot(second[0], first[0])
                    self.assertEqual(asked, held)


class Turns(Draining):
    def test_one_place(self):
        loads, left, turns = self.drained(("turns", (1,)), [goods(4, 2, 7)])
        self.assertEqual(loads, [[4], [2], [7]])
        self.assertEqual(left, [[]])
        self.assertEqual(turns, [(0, 1), (0, 1), (0, 1)])

    def test_one_place_with_a_greater_share(self):
        turns = self.drained(("turns", (2,)), [goods(0, 1, 2, 3)])[2]
        self.assertEqual(turns, [(0, 1), (0, 2), (0, 1), (0, 2)])

    def test_six_places(self):
        rows = [goods(0, 1), goods(10, 11, 12), goods(20), goods(30, 31), goods(40), goods(50, 51)]
        loads, left, turns = self.drained(("turns", (1, 2, 1, 1, 1, 9)), rows)
        self.assertEqual(loads, [[0], [10], [11], [20], [30], [40], [50], [51], [1], [12], [31]])
        self.assertEqual(turns[:4], [(0, 1), (1, 1), (1, 2), (2, 1)])
        self.assertEqual(turns[6:], [(5, 1), (5, 2), (0, 1), (1, 1), (3, 1)])
        self.assertEqual(left, [[]] * 6)

    def test_since_counts_for_nothing(self):
        rows = [[good(0, 9)], [good(1, 1)]]
        self.assertEqual(load_of(("turns", (1, 1)), rows, START, 10), ([(0, 0)], (0, 1)))

    def test_share_just_reached_and_one_less(self):
        rows = [goods(0), goods(1)]
        rule = ("turns", (3, 1))
        self.assertEqual(load_of(rule, rows, (0, 2), 0), ([(0, 0)], (0, 3)))
        self.assertEqual(load_of(rule, rows, (0, 3), 0), ([(1, 0)], (1, 1)))

    def test_share_used_up_with_goods_in_that_place_alone(self):
        rows = [[], goods(5), []]
        self.assertEqual(load_of(("turns", (1, 2, 1)), rows, (1, 2), 0), ([(1, 0)], (1, 1)))

    def test_goes_past_empty_places(self):
        rows = [[], [], [], goods(8), []]
        self.assertEqual(load_of(("turns", (4, 1, 1, 2, 1)), rows, START, 0), ([(3, 0)], (3, 1)))

    def test_an_empty_place_gives_up_the_rest_of_its_turn(self):
        rule = ("turns", (3, 1))
        self.assertEqual(load_of(rule, [[], goods(1)], (0, 1), 0), ([(1, 0)], (1, 1)))
        self.assertEqual(load_of(rule, [goods(2), goods(1)], (1, 1), 0), ([(0, 0)], (0, 1)))

    def test_behind_the_last_place_comes_the_first(self):
        rule = ("turns", (1, 1, 2))
        rows = [goods(0), goods(1), goods(2)]
        self.assertEqual(load_of(rule, rows, (2, 2), 0), ([(0, 0)], (0, 1)))
        self.assertEqual(load_of(rule, [[], goods(1), []], (2, 0), 0), ([(1, 0)], (1, 1)))

    def test_begins_with_any_turn(self):
        shares = (1, 2, 3)
        for waiting in range(1, 8):
            rows = [goods(place) if waiting >> place & 1 else [] for place in range(3)]
            for place in range(3):
                for taken in range(shares[place] + 1):
                    with self.subTest(rows=rows, turn=(place, taken)):
                        due = (place, taken + 1)
                        if not rows[place] or taken == shares[place]:
                            order = [(place + step) % 3 for step in (1, 2, 3)]
                            due = ([at for at in order if rows[at]][0], 1)
                        told = load_of(("turns", shares), rows, (place, taken), 0)
                        self.assertEqual(told, ([(due[0], 0)], due))

    def test_a_turn_that_has_taken_more_than_its_share(self):
        self.assertEqual(load_of(("turns", (2, 1)), [goods(0), goods(1)], (0, 7), 0), ([(1, 0)], (1, 1)))


class Eldest(Draining):
    def test_one_place(self):
        self.assertEqual(self.loads(("eldest",), [[good(3, 1), good(1, 1), good(2, 4)]]), [[3], [1], [2]])

    def test_six_places(self):
        rows = [[good(0, 5)], [good(1, 4)], [good(2, 6)], [good(3, 1), good(4, 9)], [], [good(5, 3)]]
        self.assertEqual(self.loads(("eldest",), rows), [[3], [5], [1], [0], [2], [4]])

    def test_same_since_in_different_places(self):
        rows = [[good(9, 2)], [good(8, 1), good(7, 2)], [good(6, 1), good(0, 1)]]
        self.assertEqual(self.loads(("eldest",), rows), [[8], [6], [0], [9], [7]])

    def test_same_since_in_one_place(self):
        self.assertEqual(self.loads(("eldest",), [[], goods(5, 3, 4)]), [[5], [3], [4]])

    def test_spot(self):
        self.assertEqual(load_of(("eldest",), [goods(7), [], [good(1, 0)]], START, 0)[0], [(0, 0)])
        self.assertEqual(load_of(("eldest",), [[good(7, 1)], [], [good(1, 0)]], START, 1)[0], [(2, 0)])


class Rank(Draining):
    def test_without_a_bound_the_first_place_where_goods_wait(self):
        rows = [[good(0, 9), good(1, 9)], [], [good(2, 1), good(3, 2)], [good(4, 0)]]
        self.assertEqual(self.loads(("rank", None), rows, 999999), [[0], [1], [2], [3], [4]])

    def test_one_place(self):
        for bound in (None, 0, 3, 99):
            with self.subTest(bound=bound):
                self.assertEqual(self.loads(("rank", bound), [[good(2, 1), good(1, 5)]]), [[2], [1]])

    def test_six_places_without_a_bound(self):
        rows = [[], [good(0, 6)], [good(1, 5)], [], [good(2, 1)], [good(3, 0)]]
        self.assertEqual(self.loads(("rank", None), rows), [[0], [1], [2], [3]])

    def test_bound_just_reached_and_just_missed(self):
        rows = [[good(0, 9)], [good(1, 4)], [good(2, 3)]]
        self.assertEqual(load_of(("rank", 7), rows, START, 10)[0], [(2, 0)])
        self.assertEqual(load_of(("rank", 8), rows, START, 10)[0], [(0, 0)])
        self.assertEqual(load_of(("rank", 6), rows, START, 10)[0], [(2, 0)])

    def test_past_the_bound_the_eldest_of_all_is_taken(self):
        rows = [[good(0, 7)], [good(1, 4), good(2, 8)], [good(3, 3)]]
        self.assertEqual(self.loads(("rank", 6), rows), [[3], [1], [0], [2]])
        self.assertEqual(self.loads(("rank", 7), rows), [[3], [0], [1], [2]])

    def test_bound_0_is_as_eldest(self):
        rows = [[good(0, 10)], [good(1, 10), good(2, 10)], [good(3, 9)]]
        self.assertEqual(self.loads(("rank", 0), rows), [[3], [0], [1], [2]])

    def test_same_since_past_the_bound(self):
        rows = [[], [good(1, 2)], [good(0, 2)]]
        self.assertEqual(self.loads(("rank", 5), rows), [[1], [0]])


class Many(Draining):
    def test_one_place_with_other_kinds_between(self):
        rows = [[good(0, 0, "a"), good(1, 0, "b"), good(2, 1, "a"), good(3, 2, "b"), good(4, 3, "a")]]
        self.assertEqual(self.loads(("many", 2), rows), [[0, 2], [1, 3], [4]])

    def test_spots_are_those_of_the_whole_rows(self):
        rows = [[good(0, 0, "b"), good(1, 5, "a")], [good(2, 1, "b"), good(3, 1, "a"), good(4, 2, "b")]]
        self.assertEqual(load_of(("many", 9), rows, START, 9)[0], [(0, 0), (1, 0), (1, 2)])

    def test_six_places_the_elder_first(self):
        rows = [[good(0, 5, "a")], [good(1, 4, "b")], [good(2, 3, "a")], [], [good(3, 3, "a"), good(4, 5, "a")], []]
        self.assertEqual(self.loads(("many", 3), rows), [[2, 3, 0], [1], [4]])

    def test_same_since(self):
        rows = [[good(5, 1, "a"), good(4, 1, "a")], [good(3, 1, "b"), good(2, 1, "a")]]
        self.assertEqual(self.loads(("many", 3), rows), [[5, 4, 2], [3]])
        self.assertEqual(self.loads(("many", 2), rows), [[5, 4], [3], [2]])

    def test_most_greater_than_what_waits(self):
        rows = [[good(0, 1, "a")], [good(1, 0, "a"), good(2, 0, "b")]]
        self.assertEqual(self.loads(("many", 999999), rows), [[1, 0], [2]])

    def test_most_1_is_as_eldest(self):
        rows = [[good(0, 1, "a"), good(1, 2, "a")], [good(2, 0, "b"), good(3, 2, "b")]]
        self.assertEqual(self.loads(("many", 1), rows), [[2], [0], [1], [3]])


class Gather(Draining):
    def test_just_most_waiting_and_one_less(self):
        rule = ("gather", 3, 100)
        rows = [[good(0, 4)], [good(1, 3), good(2, 4)]]
        self.assertEqual(load_of(rule, rows, START, 5)[0], [(1, 0), (0, 0), (1, 1)])
        self.assertEqual(load_of(rule, [rows[0], rows[1][:1]], START, 5)[0], [])

    def test_the_eldest_just_as_old_as_age_and_one_less(self):
        rows = [[good(0, 6)], [good(1, 4)]]
        self.assertEqual(load_of(("gather", 3, 6), rows, START, 10)[0], [(1, 0), (0, 0)])
        self.assertEqual(load_of(("gather", 3, 7), rows, START, 10)[0], [])
        self.assertEqual(load_of(("gather", 3, 5), rows, START, 10)[0], [(1, 0), (0, 0)])

    def test_age_0_takes_what_waits(self):
        self.assertEqual(self.loads(("gather", 9, 0), [[good(0, 10)], [good(1, 10)]]), [[0, 1]])

    def test_more_than_most_waiting(self):
        rows = [[good(0, 1), good(1, 5)], [good(2, 2, "b"), good(3, 3)], [good(4, 0), good(5, 9)]]
        loads, left, turns = self.drained(("gather", 4, 8), rows)
        self.assertEqual(loads, [[4, 0, 2, 3]])
        self.assertEqual(left, [[good(1, 5)], [], [good(5, 9)]])
        self.assertEqual(turns, [START])

    def test_one_place(self):
        self.assertEqual(self.loads(("gather", 2, 5), [goods(3, 1, 2)]), [[3, 1], [2]])

    def test_six_places(self):
        rows = [[good(place, 6 - place)] for place in range(6)]
        self.assertEqual(self.loads(("gather", 4, 1), rows), [[5, 4, 3, 2], [1, 0]])

    def test_same_since_and_all_kinds(self):
        rows = [[good(5, 1, "a"), good(4, 1, "b")], [good(3, 1, "c")], [good(2, 0, "d")]]
        self.assertEqual(self.loads(("gather", 3, 0), rows), [[2, 5, 4], [3]])

    def test_most_1_takes_at_once(self):
        self.assertEqual(self.loads(("gather", 1, 999999), [[good(0, 10)], [good(1, 9)]]), [[1], [0]])


class Meet(Draining):
    def test_goods_of_no_parcel_never_meet(self):
        loads, left, turns = self.drained(("meet",), [goods(0, 1), goods(2)])
        self.assertEqual((loads, left, turns), ([], [goods(0, 1), goods(2)], []))

    def test_goods_of_no_parcel_stay_behind(self):
        rows = [[good(0), good(1, 1, "k", "p")], [good(2), good(3, 2, "k", "p"), good(4, 3)]]
        loads, left, turns = self.drained(("meet",), rows, (1, 3))
        self.assertEqual(loads, [[1, 3]])
        self.assertEqual(left, [goods(0), [good(2), good(4, 3)]])
        self.assertEqual(turns, [(1, 3)])

    def test_parcel_lacking_in_one_place(self):
        for lacking in range(3):
            rows = [[good(place, 0, "k", "p"), good(9, 1, "k", "q")] for place in range(3)]
            rows[lacking] = [good(9, 1, "k", "r")]
            with self.subTest(lacking=lacking):
                self.assertEqual(load_of(("meet",), rows, START, 5), ([], START))

    def test_elder_parcel_lacking_in_one_place(self):
        rows = [[good(0, 0, "k", "p"), good(1, 4, "k", "q")], [good(2, 1, "k", "p"), good(3, 2, "k", "q")], []]
        self.assertEqual(load_of(("meet",), rows, START, 5)[0], [])
        rows[2].append(good(4, 5, "k", "q"))
        self.assertEqual(load_of(("meet",), rows, START, 5)[0], [(0, 1), (1, 1), (2, 0)])

    def test_of_two_parcels_the_one_with_the_eldest_good(self):
        rows = [[good(0, 2, "k", "p"), good(1, 3, "k", "q")], [good(2, 1, "k", "q"), good(3, 4, "k", "p")]]
        self.assertEqual(self.loads(("meet",), rows), [[1, 2], [0, 3]])

    def test_of_two_parcels_of_the_same_since_the_one_in_the_first_place(self):
        rows = [[good(0, 1, "k", "q"), good(1, 1, "k", "p")], [good(2, 1, "k", "p"), good(3, 1, "k", "q")]]
        self.assertEqual(self.loads(("meet",), rows), [[0, 3], [1, 2]])

    def test_several_goods_of_a_parcel_in_one_place(self):
        rows = [[good(0, 1, "k", "p"), good(1, 1, "k", "p")], [good(2, 0), good(3, 2, "k", "p")]]
        loads, left, turns = self.drained(("meet",), rows)
        self.assertEqual(loads, [[0, 3]])
        self.assertEqual(left, [[good(1, 1, "k", "p")], [good(2, 0)]])

    def test_several_goods_of_a_parcel_in_all_places(self):
        rows = [[good(0, 1, "k", "p"), good(1, 3, "k", "p")], [good(2, 2, "k", "p"), good(3, 2, "k", "p")]]
        self.assertEqual(self.loads(("meet",), rows), [[0, 2], [1, 3]])

    def test_six_places_in_their_order(self):
        rows = [[good(place, 6 - place, "k", "p")] for place in range(6)]
        self.assertEqual(self.loads(("meet",), rows), [[0, 1, 2, 3, 4, 5]])

    def test_kinds_count_for_nothing(self):
        rows = [[good(0, 1, "a", "p")], [good(1, 1, "b", "p")]]
        self.assertEqual(self.loads(("meet",), rows), [[0, 1]])


class AnyRows(unittest.TestCase):
    """The words of points 31 and 32 held against what is told, for many rows."""

    def setUp(self):
        self.chance = random.Random(20)

    def some_rows(self):
        rows = []
        number = 0
        for place in range(self.chance.randint(1, 6)):
            sinces = sorted(self.chance.randint(0, 5) for one in range(self.chance.randint(0, 4)))
            row = []
            for since in sinces:
                row.append(good(number, since, self.chance.choice("ab"), self.chance.choice(["", "p", "q"])))
                number += 1
            rows.append(row)
        return rows

    def waiting(self, rows):
        return [(place, number) for place, row in enumerate(rows) for number in range(len(row))]

    def elder(self, rows, one, other):
        since = [rows[place][number][1] for place, number in (one, other)]
        if since[0] != since[1]:
            return since[0] < since[1]
        if one[0] != other[0]:
            return one[0] < other[0]
        return one[1] < other[1]

    def eldest(self, rows, spots):
        return [one for one in spots if not any(self.elder(rows, other, one) for other in spots)][0]

    def check_most_eldest(self, rows, load, spots, most):
        self.assertEqual(len(load), min(most, len(spots)))
        self.assertTrue(all(self.elder(rows, one, other) for one, other in zip(load, load[1:])))
        left = [spot for spot in spots if spot not in load]
        self.assertEqual(len(left), len(spots) - len(load))
        self.assertTrue(all(self.elder(rows, one, other) for one in load for other in left))

    def each(self):
        for count in range(400):
            rows = self.some_rows()
            yield rows, self.waiting(rows), self.chance.randint(5, 9)

    def test_eldest_and_rank(self):
        for rows, spots, now in self.each():
            if spots:
                eldest = self.eldest(rows, spots)
                self.assertEqual(load_of(("eldest",), rows, START, now)[0], [eldest])
                bound = self.chance.randint(0, 9)
                past = now - rows[eldest[0]][eldest[1]][1] >= bound
                first = [spot for spot in spots if not any(rows[:spot[0]]) and spot[1] == 0]
                self.assertEqual(load_of(("rank", None), rows, START, now)[0], first)
                self.assertEqual(load_of(("rank", bound), rows, START, now)[0], [eldest] if past else first)

    def test_many(self):
        for rows, spots, now in self.each():
            if spots:
                most = self.chance.randint(1, 5)
                place, number = self.eldest(rows, spots)
                kind = rows[place][number][2]
                alike = [spot for spot in spots if rows[spot[0]][spot[1]][2] == kind]
                self.check_most_eldest(rows, load_of(("many", most), rows, START, now)[0], alike, most)

    def test_gather(self):
        for rows, spots, now in self.each():
            if spots:
                most, age = self.chance.randint(1, 24), self.chance.randint(0, 9)
                place, number = self.eldest(rows, spots)
                load = load_of(("gather", most, age), rows, START, now)[0]
                if len(spots) < most and now - rows[place][number][1] < age:
                    self.assertEqual(load, [])
                else:
                    self.check_most_eldest(rows, load, spots, most)

    def test_meet(self):
        for rows, spots, now in self.each():
            met = [name for name in "pq" if all(any(one[3] == name for one in row) for row in rows)]
            of_met = [spot for spot in spots if rows[spot[0]][spot[1]][3] in met]
            due = []
            if of_met:
                place, number = self.eldest(rows, of_met)
                name = rows[place][number][3]
                due = [(at, [one[3] for one in row].index(name)) for at, row in enumerate(rows)]
            self.assertEqual(load_of(("meet",), rows, START, now)[0], due)

    def test_no_load_is_greater_than_the_greatest(self):
        for rows, spots, now in self.each():
            for rule in RULES:
                load = load_of(rule, rows, START, now)[0]
                self.assertLessEqual(len(load), greatest_load(rule, len(rows)))


class GreatestLoad(unittest.TestCase):
    def test_one_good_at_a_time(self):
        for many in (1, 2, 6):
            for rule in (("turns", (9,) * many), ("eldest",), ("rank", None), ("rank", 0), ("rank", 7)):
                with self.subTest(rule=rule, many=many):
                    self.assertEqual(greatest_load(rule, many), 1)

    def test_many_and_gather(self):
        for most in (1, 2, 7, 999999):
            for many in (1, 3, 6):
                with self.subTest(most=most, many=many):
                    self.assertEqual(greatest_load(("many", most), many), most)
                    self.assertEqual(greatest_load(("gather", most, 5), many), most)

    def test_meet(self):
        for many in (2, 3, 6):
            with self.subTest(many=many):
                self.assertEqual(greatest_load(("meet",), many), many)


if __name__ == "__main__":
    unittest.main()
