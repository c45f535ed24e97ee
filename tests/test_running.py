"""Points 43, 51, 64 and 65, and point 1 for them."""

import random
import unittest
from unittest import mock

from mergeline.floors import Floor
from mergeline.plants import read_plant
from mergeline.running import run_by_events, run_by_turns
from tests.helper import book_of, day_of, done_at, fields_of, parts_of, some_day, some_rows, spoil_parts

RUNS = (run_by_turns, run_by_events)


class Runs(unittest.TestCase):
    def check(self, rows, goods, until, *due):
        """Both runs tell these entries."""
        plant, day = read_plant("\n".join(rows)), day_of(*goods)
        for run in RUNS:
            with self.subTest(run=run.__name__, until=until):
                self.assertEqual(run(plant, day, until), book_of(*due))


class ByHand(Runs):
    """Point 43."""

    def test_goods_that_come_at_one_time(self):
        self.check(["kind k -", "gate a", "gate b", "desk d to - by eldest from a b", "time d k 2"],
                   ["1 b k -", "1 a k -", "3 b k -"], 20,
                   "1 come 0", "1 come 1", "1 take d 1",
                   "3 come 2", "3 put d 1", "3 take d 0",
                   "5 put d 0", "5 take d 2",
                   "7 put d 2")

    def test_goods_that_spoil_at_a_gate(self):
        self.check(["kind k 4", "kind m 2", "kind n -", "gate a", "gate b", "desk d to - by eldest from a", "time d k 3"],
                   ["0 a k -", "0 a k -", "1 a m -", "2 b m -", "2 b m -", "2 a n -", "4 a k -"], 20,
                   "0 come 0", "0 come 1", "0 take d 0",
                   "1 come 2",
                   "2 come 3", "2 come 4", "2 come 5",
                   "3 spoil 2", "3 put d 0", "3 take d 1",
                   "4 come 6", "4 spoil 3", "4 spoil 4",
                   "6 put d 1", "6 take d 5",
                   "7 put d 5", "7 take d 6",
                   "10 put d 6")

    def test_goods_that_spoil_in_a_line(self):
        self.check(["kind k 3", "kind m -", "gate a", "line p 1", "desk d to p by eldest from a",
                    "desk e to - by eldest from p", "time e m 4"],
                   ["0 a m -", "0 a k -", "0 a k -"], 20,
                   "0 come 0", "0 come 1", "0 come 2", "0 take d 0",
                   "1 put d 0", "1 take d 1", "1 take e 0",
                   "2 put d 1", "2 take d 2",
                   "3 spoil 1", "3 put d 2",
                   "4 spoil 2",
                   "5 put e 0")

    def test_loads_that_wait_for_room(self):
        self.check(["kind k -", "gate a", "line p 2", "desk d to p by many 2 from a", "desk e to - by eldest from p",
                    "time e k 3"],
                   ["0 a k -"] * 4, 20,
                   "0 come 0", "0 come 1", "0 come 2", "0 come 3", "0 take d 0 1",
                   "1 put d 0 1", "1 take d 2 3", "1 take e 0",
                   "4 put e 0", "4 take e 1", "4 put d 2 3",
                   "7 put e 1", "7 take e 2",
                   "10 put e 2", "10 take e 3",
                   "13 put e 3")

    def test_a_load_that_waits_for_room_for_ever(self):
        self.check(["kind k -", "gate a", "line p 1", "desk d to p by eldest from a"], ["0 a k -"] * 3, 20,
                   "0 come 0", "0 come 1", "0 come 2", "0 take d 0",
                   "1 put d 0", "1 take d 1")

    def test_a_load_that_finds_room_as_a_good_spoils(self):
        self.check(["kind k -", "kind m 6", "gate a", "line p 1", "desk d to p by eldest from a"],
                   ["0 a m -", "0 a k -"], 20,
                   "0 come 0", "0 come 1", "0 take d 0",
                   "1 put d 0", "1 take d 1",
                   "6 spoil 0", "6 put d 1")

    def test_hours(self):
        self.check(["kind k -", "gate a", "desk d to - by eldest from a", "time d k 3", "open d 2 4", "open d 8 9"],
                   ["0 a k -", "0 a k -", "1 a k -"], 20,
                   "0 come 0", "0 come 1",
                   "1 come 2",
                   "2 take d 0",
                   "5 put d 0",
                   "8 take d 1",
                   "11 put d 1")

    def test_turns(self):
        self.check(["kind k -", "gate a", "gate b", "desk d to - by turns 2 1 from a b"], ["0 a k -"] * 4 + ["0 b k -"] * 2, 20,
                   "0 come 0", "0 come 1", "0 come 2", "0 come 3", "0 come 4", "0 come 5", "0 take d 0",
                   "1 put d 0", "1 take d 1",
                   "2 put d 1", "2 take d 4",
                   "3 put d 4", "3 take d 2",
                   "4 put d 2", "4 take d 3",
                   "5 put d 3", "5 take d 5",
                   "6 put d 5")

    GOODS = ["0 b k -", "0 a k -", "0 a k -", "0 a k -", "2 a k -", "2 a k -"]

    def test_rank_with_a_bound(self):
        self.check(["kind k -", "gate a", "gate b", "desk d to - by rank 3 from a b"], self.GOODS, 20,
                   "0 come 0", "0 come 1", "0 come 2", "0 come 3", "0 take d 1",
                   "1 put d 1", "1 take d 2",
                   "2 come 4", "2 come 5", "2 put d 2", "2 take d 3",
                   "3 put d 3", "3 take d 0",
                   "4 put d 0", "4 take d 4",
                   "5 put d 4", "5 take d 5",
                   "6 put d 5")

    def test_rank_without_a_bound(self):
        self.check(["kind k -", "gate a", "gate b", "desk d to - by rank - from a b"], self.GOODS, 20,
                   "0 come 0", "0 come 1", "0 come 2", "0 come 3", "0 take d 1",
                   "1 put d 1", "1 take d 2",
                   "2 come 4", "2 come 5", "2 put d 2", "2 take d 3",
                   "3 put d 3", "3 take d 4",
                   "4 put d 4", "4 take d 5",
                   "5 put d 5", "5 take d 0",
                   "6 put d 0")

    def test_many(self):
        self.check(["kind k -", "kind m -", "gate a", "gate b", "desk d to - by many 2 from a b", "time d m 3"],
                   ["0 b m -", "0 a k -", "0 b k -", "0 a k -", "1 a m -"], 20,
                   "0 come 0", "0 come 1", "0 come 2", "0 come 3", "0 take d 1 3",
                   "1 come 4", "1 put d 1 3", "1 take d 0 4",
                   "4 put d 0 4", "4 take d 2",
                   "5 put d 2")

    def test_gather(self):
        self.check(["kind k -", "kind m -", "gate a", "gate b", "desk d to - by gather 3 4 from a b", "time d m 2"],
                   ["1 b k -", "2 a k -", "9 a k -", "9 b m -", "9 a k -", "9 b k -"], 20,
                   "1 come 0",
                   "2 come 1",
                   "5 take d 0 1",
                   "6 put d 0 1",
                   "9 come 2", "9 come 3", "9 come 4", "9 come 5", "9 take d 2 4 3",
                   "11 put d 2 4 3",
                   "13 take d 5",
                   "14 put d 5")

    def test_meet(self):
        self.check(["kind k -", "gate a", "gate b", "line p 2", "desk d to p by meet from a b", "desk e to - by eldest from p"],
                   ["0 a k x", "0 b k y", "1 b k x", "1 a k -", "2 a k y", "3 b k -"], 20,
                   "0 come 0", "0 come 1",
                   "1 come 2", "1 come 3", "1 take d 0 2",
                   "2 come 4", "2 put d 0 2", "2 take d 4 1", "2 take e 0",
                   "3 come 5", "3 put e 0", "3 take e 2", "3 put d 4 1",
                   "4 put e 2", "4 take e 4",
                   "5 put e 4", "5 take e 1",
                   "6 put e 1")

    def test_desks_one_behind_the_other_in_the_plants_order(self):
        self.check(["kind k -", "gate a", "line p 1", "desk d to p by eldest from a", "desk e to - by eldest from p",
                    "time e k 2"],
                   ["0 a k -"] * 3, 20,
                   "0 come 0", "0 come 1", "0 come 2", "0 take d 0",
                   "1 put d 0", "1 take d 1", "1 take e 0",
                   "2 put d 1", "2 take d 2",
                   "3 put e 0", "3 take e 1", "3 put d 2",
                   "5 put e 1", "5 take e 2",
                   "7 put e 2")

    def test_desks_one_behind_the_other_against_the_plants_order(self):
        self.check(["kind k -", "gate a", "line p 1", "desk e to - by eldest from p", "desk d to p by eldest from a",
                    "time e k 2"],
                   ["0 a k -"] * 3, 20,
                   "0 come 0", "0 come 1", "0 come 2", "0 take d 0",
                   "1 put d 0", "1 take e 0", "1 take d 1",
                   "2 put d 1", "2 take d 2",
                   "3 put e 0", "3 take e 1", "3 put d 2",
                   "5 put e 1", "5 take e 2",
                   "7 put e 2")

    def test_a_desk_that_takes_what_it_puts(self):
        self.check(["kind k 3", "gate a", "line p 1", "desk d to p by turns 1 1 from a p"], ["1 a k -"], 20,
                   "1 come 0", "1 take d 0",
                   "2 put d 0", "2 take d 0",
                   "3 put d 0", "3 take d 0",
                   "4 put d 0", "4 take d 0",
                   "5 put d 0", "5 take d 0",
                   *[f"{t} {deed} d 0" for t in range(6, 21) for deed in ("put", "take")])


    def test_times_far_apart(self):
        self.check(["kind k 1500", "gate a", "line p 3", "desk d to p by gather 3 700 from a", "desk e to - by eldest from p",
                    "open e 1900 1950"],
                   ["100 a k -", "400 a k -", "1000 a k -"], 2000,
                   "100 come 0",
                   "400 come 1",
                   "800 take d 0 1",
                   "801 put d 0 1",
                   "1000 come 2",
                   "1600 spoil 0",
                   "1700 take d 2",
                   "1701 put d 2",
                   "1900 spoil 1", "1900 take e 2",
                   "1901 put e 2")


class Ends(Runs):
    """Point 43: where a book ends."""

    ROWS = ["kind k -", "gate a", "desk d to - by eldest from a", "time d k 4"]
    GOODS = ["3 a k -", "3 a k -"]
    BOOK = ["3 come 0", "3 come 1", "3 take d 0", "7 put d 0", "7 take d 1", "11 put d 1"]

    def test_until_0(self):
        self.check(self.ROWS, self.GOODS, 0)
        self.check(self.ROWS, ["0 a k -", "1 a k -"], 0, "0 come 0", "0 take d 0")

    def test_until_ahead_of_the_first_coming(self):
        self.check(self.ROWS, self.GOODS, 2)

    def test_until_the_first_coming(self):
        self.check(self.ROWS, self.GOODS, 3, *self.BOOK[:3])

    def test_until_between_two_acts(self):
        for until in (4, 6):
            self.check(self.ROWS, self.GOODS, until, *self.BOOK[:3])

    def test_until_an_act(self):
        self.check(self.ROWS, self.GOODS, 7, *self.BOOK[:5])
        self.check(self.ROWS, self.GOODS, 10, *self.BOOK[:5])
        self.check(self.ROWS, self.GOODS, 11, *self.BOOK)

    def test_until_behind_the_last_act(self):
        for until in (12, 50, 2000):
            self.check(self.ROWS, self.GOODS, until, *self.BOOK)

    def test_goods_that_come_behind_the_end(self):
        self.check(self.ROWS, ["3 a k -", "30 a k -", "999999 a k -"], 29, "3 come 0", "3 take d 0", "7 put d 0")

    def test_an_empty_day(self):
        for until in (0, 1, 2000):
            self.check(self.ROWS, [], until)
            self.check([], [], until)

    def test_a_plant_without_desks(self):
        self.check(["kind k 2", "kind m -", "gate a", "gate b", "line p 3"], ["0 b k -", "0 a m -", "1 a k -", "5 a k -"], 6,
                   "0 come 0", "0 come 1", "1 come 2", "2 spoil 0", "3 spoil 2", "5 come 3")

    def test_what_a_floor_tells_that_is_asked_at_each_time(self):
        chance = random.Random(43)
        for count in range(60):
            plant = read_plant("\n".join(some_rows(chance)))
            day = some_day(chance, plant)
            floor = Floor(plant, day)
            due = [entry for t in range(41) for entry in done_at(floor, t)]
            self.assertEqual(run_by_turns(plant, day, 40), due)


class Asked(Floor):
    """A floor that keeps the times at which it is asked what comes."""

    times = []

    def come(self, t):
        Asked.times.append(t)
        return Floor.come(self, t)


class Alike(unittest.TestCase):
    """Point 51."""

    def each(self, seed, many, far, last):
        chance = random.Random(seed)
        for count in range(many):
            plant = read_plant("\n".join(some_rows(chance, far)))
            yield plant, some_day(chance, plant, last)

    def test_the_same_book_from_both_runs(self):
        for plant, day in self.each(51, 300, 1, 25):
            for until in (0, 7, 45):
                self.assertEqual(run_by_events(plant, day, until), run_by_turns(plant, day, until))

    def test_the_same_book_with_times_far_apart(self):
        for far, last in ((1, 2000), (20, 500), (60, 1900), (7, 900), (60, 60)):
            for plant, day in self.each(far, 25, far, last):
                self.assertEqual(run_by_events(plant, day, 2000), run_by_turns(plant, day, 2000))

    def test_no_time_is_gone_through_at_which_nothing_is_done(self):
        for plant, day in self.each(52, 40, 40, 1500):
            Asked.times.clear()
            with mock.patch("mergeline.running.Floor", Asked):
                book = run_by_events(plant, day, 2000)
            self.assertEqual(Asked.times, sorted({entry[1] for entry in book}))

    def test_asked_twice_it_tells_the_same_and_nothing_is_changed(self):
        for plant, day in self.each(53, 60, 3, 60):
            held, kept = fields_of(plant), list(day)
            for run in RUNS:
                told = run(plant, day, 90)
                due = list(told)
                spoil_parts(told)
                self.assertEqual(run(plant, day, 90), due)
                self.assertEqual(fields_of(plant), held)
                self.assertEqual(day, kept)

    def test_no_list_is_told_twice(self):
        for plant, day in self.each(54, 20, 1, 25):
            parts = [part for run in RUNS for part in parts_of((run(plant, day, 40), run(plant, day, 40)))]
            self.assertEqual(len({id(part) for part in parts}), len(parts))

    def test_a_day_longer_than_those_that_are_handed_in(self):
        plant = read_plant("kind k -\ngate a\ndesk d to - by eldest from a\ntime d k 3")
        day = [(2 * number, "a", "k", "") for number in range(300)]
        book = run_by_events(plant, day, 5000)
        self.assertEqual(book, run_by_turns(plant, day, 5000))
        self.assertEqual(book[-1], ("put", 900, "d", (299,)))


class Walk:
    """The goods in a plant's places, with their sinces, as a book leaves them entry by entry."""

    def __init__(self, plant, day):
        self.desks = {desk[0]: desk for desk in plant.desks}
        self.day = day
        self.places = {place: [] for place in plant.gates + list(plant.lines)}

    def rows(self, desk):
        return [self.places[place] for place in desk[3]]

    def spots(self, desk):
        """The goods at a desk as (since, place's number, number in its list, good), the eldest first."""
        return sorted((since, place, number, good) for place, row in enumerate(self.rows(desk))
                      for number, (good, since) in enumerate(row))

    def enter(self, entry):
        t = entry[1]
        if entry[0] == "come":
            self.places[self.day[entry[2]][1]].append((entry[2], t))
        elif entry[0] == "put":
            to = self.desks[entry[2]][1]
            self.places.get(to, []).extend((good, t) for good in entry[3])
        else:
            gone = (entry[2],) if entry[0] == "spoil" else entry[3]
            for place, row in self.places.items():
                self.places[place] = [one for one in row if one[0] not in gone]


class PassedBy(unittest.TestCase):
    """Points 64 and 65, on books of both runs."""

    def each_book(self, seed, word):
        """Many plants with desks of a rule, days and books."""
        chance = random.Random(seed)
        for count in range(250):
            plant = read_plant("\n".join(some_rows(chance, word=word)))
            day = some_day(chance, plant, chance.choice([0, 5, 25]))
            for run in RUNS:
                yield plant, day, run(plant, day, 60)

    def each_take(self, seed, word):
        """The entries of such books that are takes of such desks, each with the desk and the walk ahead of it."""
        self.found = 0
        for plant, day, book in self.each_book(seed, word):
            walk = Walk(plant, day)
            for entry in book:
                if entry[0] == "take" and walk.desks[entry[2]][2][0] == word:
                    self.found += 1
                    yield entry, walk.desks[entry[2]], walk
                walk.enter(entry)

    def test_turns(self):
        found = 0
        for plant, day, book in self.each_book(64, "turns"):
            found += self.check_turns(plant, day, book)
        self.assertGreater(found, 500)

    def check_turns(self, plant, day, book):
        """How many goods were taken by desks of `turns` while others stood first."""
        walk = Walk(plant, day)
        desks = [desk for desk in plant.desks if desk[2][0] == "turns"]
        firsts, passed, found = {}, {}, 0
        for entry in book:
            if entry[0] == "take" and walk.desks[entry[2]] in desks:
                desk = walk.desks[entry[2]]
                taken = [place for place in desk[3] if walk.places[place] and walk.places[place][0][0] == entry[3][0]]
                self.assertEqual((len(entry[3]), len(taken)), (1, 1))
                for place in desk[3]:
                    if place != taken[0] and firsts.get(place) is not None:
                        pair = (place, taken[0])
                        passed[pair] = passed.get(pair, 0) + 1
                        found += 1
                        self.assertLessEqual(passed[pair], desk[2][1][desk[3].index(taken[0])])
            walk.enter(entry)
            for place, row in walk.places.items():
                first = row[0] if row else None
                if firsts.get(place) != first:
                    firsts[place] = first
                    passed = {pair: many for pair, many in passed.items() if pair[0] != place}
        return found

    def test_eldest(self):
        for entry, desk, walk in self.each_take(65, "eldest"):
            self.assertEqual(entry[3], (walk.spots(desk)[0][3],))
        self.assertGreater(self.found, 300)

    def test_rank(self):
        bound_due = 0
        for entry, desk, walk in self.each_take(66, "rank"):
            spots = walk.spots(desk)
            taken = [spot for spot in spots if (spot[3],) == entry[3]][0]
            self.assertEqual(taken[2], 0)
            if desk[2][1] is None:
                self.assertEqual(taken[1], min(spot[1] for spot in spots))
            else:
                late = [spot for spot in spots if entry[1] - spot[0] >= desk[2][1]]
                self.assertTrue(all(taken <= spot for spot in late))
                bound_due += any(spot != taken and spot[1] > taken[1] for spot in late)
        self.assertGreater(self.found, 300)
        self.assertGreater(bound_due, 20)

    def test_meet(self):
        for entry, desk, walk in self.each_take(67, "meet"):
            waiting = [[one[0] for one in row] for row in walk.rows(desk)]
            parcels = {walk.day[good][3] for good in entry[3]}
            self.assertEqual(len(parcels), 1)
            self.assertNotEqual(parcels, {""})
            self.assertEqual(len(entry[3]), len(desk[3]))
            for good, row in zip(entry[3], waiting):
                self.assertIn(good, row)
        self.assertGreater(self.found, 100)

    def test_what_has_met_goes_on_together(self):
        found = 0
        for plant, day, book in self.each_book(68, "meet"):
            meet = [desk[0] for desk in plant.desks if desk[2][0] == "meet"]
            held = {}
            for entry in book:
                if entry[0] == "take" and entry[2] in meet:
                    held[entry[2]] = entry[3]
                if entry[0] == "put" and entry[2] in meet:
                    self.assertEqual(entry[3], held.pop(entry[2]))
                    found += 1
        self.assertGreater(found, 100)


if __name__ == "__main__":
    unittest.main()
