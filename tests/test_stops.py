"""Points 61 and 62, and point 1 for them."""

import copy
import random
import unittest

from mergeline.books import replayed
from mergeline.floors import Floor
from mergeline.plants import read_plant
from mergeline.running import run_by_events, run_by_turns
from mergeline.stops import chain_of, stopped
from tests.helper import book_of, day_of, done_at, fields_of, parts_of, some_day, some_rows, spoil_parts


def state_of(plant, places, loads):
    """The two dicts with what is told, all else empty."""
    told = {name: [] for name in plant.gates + list(plant.lines)}
    told.update(places)
    held = {desk[0]: None for desk in plant.desks}
    held.update(loads)
    return told, held


class Stopped(unittest.TestCase):
    """Point 61."""

    PLANT = read_plant("\n".join([
        "kind k -", "gate a", "gate b", "gate c", "line p 1", "line q 3",
        "desk f to q by many 3 from c", "desk e to - by eldest from p q", "desk d to p by eldest from a",
        "desk g to p by eldest from b",
    ]))

    def told(self, places, loads, time):
        state = state_of(self.PLANT, places, loads)
        return stopped(self.PLANT, state[0], state[1], time)

    def test_nothing_held(self):
        self.assertEqual(self.told({}, {}, 5), [])
        self.assertEqual(self.told({"a": [3, 4], "p": [0], "q": [1, 2, 5]}, {}, 5), [])

    def test_a_load_done_and_not_done(self):
        for time, due in ((0, []), (6, []), (7, ["d"]), (8, ["d"]), (999999, ["d"])):
            self.assertEqual(self.told({"p": [0]}, {"d": ((1,), 7)}, time), due)

    def test_a_line_with_room_and_without(self):
        self.assertEqual(self.told({"p": []}, {"d": ((1,), 7)}, 7), [])
        self.assertEqual(self.told({"p": [], "q": [0, 2, 3]}, {"d": ((1,), 7)}, 7), [])
        for waiting, goods, due in (([], (5, 6, 7), []), ([0], (5, 6, 7), ["f"]), ([0], (5, 6), []), ([0, 1], (5, 6), ["f"]),
                                    ([0, 1], (5,), []), ([0, 1, 2], (5,), ["f"])):
            self.assertEqual(self.told({"q": waiting}, {"f": (goods, 7)}, 9), due)

    def test_a_desk_that_puts_out(self):
        self.assertEqual(self.told({"p": [0], "q": [1, 2, 3]}, {"e": ((4,), 2)}, 99), [])
        self.assertEqual(self.told({"p": [0], "q": [1, 2, 3]}, {"e": ((4,), 2), "d": ((5,), 3)}, 99), ["d"])

    def test_the_plants_order(self):
        loads = {"g": ((1,), 0), "d": ((2,), 0), "e": ((3,), 0), "f": ((4,), 0)}
        self.assertEqual(self.told({"p": [5], "q": [6, 7, 8]}, loads, 0), ["f", "d", "g"])
        self.assertEqual(stopped(self.PLANT, {"q": [6, 7, 8], "p": [5], "c": [], "b": [], "a": []}, loads, 0), ["f", "d", "g"])
        self.assertEqual(self.told({"p": [5], "q": [6, 7]}, loads, 0), ["d", "g"])

    def test_a_plant_without_desks(self):
        self.assertEqual(stopped(read_plant("gate a\nline p 1"), {"a": [], "p": []}, {}, 3), [])

    def test_on_floors(self):
        chance = random.Random(61)
        found = 0
        for count in range(80):
            plant = read_plant("\n".join(some_rows(chance)))
            floor = Floor(plant, some_day(chance, plant, 5))
            for t in range(40):
                done_at(floor, t)
                loads = floor.loads_now()
                # Where all was done, a desk that holds a load whose work is done lacks room.
                due = [desk[0] for desk in plant.desks if loads[desk[0]] is not None and loads[desk[0]][1] <= t]
                self.assertEqual(stopped(plant, floor.places_now(), loads, t), due)
                found += len(due)
        self.assertGreater(found, 100)


class Chains(unittest.TestCase):
    """Point 62."""

    PLANT = read_plant("\n".join([
        "kind k -", "gate a", "gate b", "gate c", "line p 1", "line q 1", "line r 2", "line s 1", "line t 1",
        # Into the ring of e, f and g.
        "desk d to p by eldest from a",
        "desk g to p by eldest from r", "desk e to q by eldest from p", "desk f to r by many 2 from q t",
        # Into a line from which no desk takes.
        "desk h to s by eldest from b c",
    ]))

    def chain(self, desk, places, loads, time=9):
        state = state_of(self.PLANT, places, loads)
        self.assertIn(desk, stopped(self.PLANT, state[0], state[1], time))
        return chain_of(self.PLANT, state[0], state[1], time, desk)

    FULL = {"p": [0], "q": [1], "r": [2, 3], "s": [4]}
    LOADS = {"d": ((5,), 1), "e": ((6,), 2), "f": ((7, 8), 3), "g": ((9,), 4), "h": ((10,), 5)}

    def test_a_ring_of_several(self):
        self.assertEqual(self.chain("e", self.FULL, self.LOADS), ("ring", ["e", "f", "g"]))
        self.assertEqual(self.chain("f", self.FULL, self.LOADS), ("ring", ["f", "g", "e"]))
        self.assertEqual(self.chain("g", self.FULL, self.LOADS), ("ring", ["g", "e", "f"]))

    def test_a_ring_into_which_a_tail_leads(self):
        self.assertEqual(self.chain("d", self.FULL, self.LOADS), ("ring", ["e", "f", "g"]))

    def test_waits_for_a_desk_that_holds_nothing(self):
        for free, due in (("e", ["d", "e"]), ("f", ["d", "e", "f"]), ("g", ["d", "e", "f", "g"])):
            loads = dict(self.LOADS)
            loads[free] = None
            self.assertEqual(self.chain("d", self.FULL, loads), ("waits", due))

    def test_waits_for_a_desk_whose_work_is_not_done(self):
        for time, due in ((1, ["d", "e"]), (2, ["d", "e", "f"]), (3, ["d", "e", "f", "g"])):
            self.assertEqual(self.chain("d", self.FULL, self.LOADS, time), ("waits", due))
        self.assertEqual(self.chain("d", self.FULL, self.LOADS, 4), ("ring", ["e", "f", "g"]))

    def test_waits_for_a_desk_whose_line_has_room(self):
        places = dict(self.FULL)
        places["r"] = []
        self.assertEqual(self.chain("d", places, self.LOADS), ("waits", ["d", "e", "f"]))
        self.assertEqual(self.chain("g", places, self.LOADS), ("waits", ["g", "e", "f"]))
        self.assertEqual(self.chain("e", places, self.LOADS), ("waits", ["e", "f"]))
        # Room for one is none for two.
        places["r"] = [2]
        self.assertEqual(self.chain("d", places, self.LOADS), ("ring", ["e", "f", "g"]))

    def test_waits_for_a_desk_that_puts_out(self):
        plant = read_plant("gate a\nline p 1\ndesk e to - by eldest from p\ndesk d to p by eldest from a")
        for load in (None, ((2,), 1), ((2,), 99)):
            self.assertEqual(chain_of(plant, {"a": [], "p": [0]}, {"e": load, "d": ((1,), 1)}, 9, "d"), ("waits", ["d", "e"]))

    def test_none(self):
        self.assertEqual(self.chain("h", self.FULL, self.LOADS), ("none", ["h"]))

    def test_none_behind_a_tail(self):
        rows = ["gate a", "line p 1", "line q 1", "line s 1", "desk d to p by eldest from a", "desk f to s by eldest from q",
                "desk e to q by eldest from p"]
        plant = read_plant("\n".join(rows))
        places = {"a": [], "p": [0], "q": [1], "s": [2]}
        loads = {"d": ((3,), 1), "f": ((4,), 1), "e": ((5,), 1)}
        self.assertEqual(chain_of(plant, places, loads, 1, "d"), ("none", ["d", "e", "f"]))
        self.assertEqual(chain_of(plant, places, loads, 1, "e"), ("none", ["e", "f"]))
        self.assertEqual(chain_of(plant, places, loads, 1, "f"), ("none", ["f"]))

    def test_a_ring_of_one(self):
        plant = read_plant("gate a\ngate b\nline p 1\ndesk d to p by eldest from b\ndesk e to p by turns 1 1 from a p")
        places = {"a": [3], "b": [], "p": [0]}
        loads = {"d": ((1,), 1), "e": ((2,), 1)}
        self.assertEqual(chain_of(plant, places, loads, 1, "e"), ("ring", ["e"]))
        self.assertEqual(chain_of(plant, places, loads, 1, "d"), ("ring", ["e"]))
        self.assertEqual(chain_of(plant, places, {"d": ((1,), 1), "e": None}, 1, "d"), ("waits", ["d", "e"]))

    def test_what_is_told_is_a_tuple_of_a_text_and_a_list(self):
        told = self.chain("h", self.FULL, self.LOADS)
        self.assertIs(type(told), tuple)
        self.assertIs(type(told[1]), list)


class InRuns(unittest.TestCase):
    """Point 62: what holds of a ring while no good of its lines spoils."""

    ROWS = ["gate a", "line p 1", "line q 1", "desk d to p by eldest from a", "desk e to q by eldest from p",
            "desk f to p by eldest from q"]
    # The goods go round until all places and desks of the ring are full.
    BOOK = ["0 come 0", "0 come 1", "0 come 2", "0 come 3", "0 come 4", "0 come 5", "0 take d 0",
            "1 put d 0", "1 take d 1", "1 take e 0",
            "2 put d 1", "2 take d 2", "2 put e 0", "2 take e 1", "2 take f 0",
            "3 put d 2", "3 take d 3", "3 put e 1", "3 take e 2", "3 put f 0", "3 take f 1"]

    def check_end(self, plant, day, until, due):
        for run in (run_by_turns, run_by_events):
            book = run(plant, day, until)
            self.assertEqual(book, due)
            places, loads = replayed(plant, day, book)
            self.assertEqual(stopped(plant, places, loads, until), ["d", "e", "f"])
            self.assertEqual(chain_of(plant, places, loads, until, "d"), ("ring", ["e", "f"]))
            self.assertEqual(chain_of(plant, places, loads, until, "e"), ("ring", ["e", "f"]))
            self.assertEqual(chain_of(plant, places, loads, until, "f"), ("ring", ["f", "e"]))

    def test_a_ring_acts_no_more(self):
        plant = read_plant("\n".join(["kind k -"] + self.ROWS))
        day = day_of(*["0 a k -"] * 6)
        self.assertEqual(run_by_turns(plant, day, 3), book_of(*self.BOOK))
        last = run_by_turns(plant, day, 60)
        for until in (10, 60, 2000):
            self.check_end(plant, day, until, last)

    def test_many_rings(self):
        chance = random.Random(62)
        rings = freed = 0
        for count in range(250):
            plant = read_plant("\n".join(some_rows(chance)))
            day = some_day(chance, plant, chance.choice([0, 5, 20]))
            floor = Floor(plant, day)
            # From the desks of each ring to the lines into which they put.
            held = {}
            for t in range(40):
                held, gone = self.left(plant, day, floor, held, t)
                freed += gone
                places, loads = floor.places_now(), floor.loads_now()
                for desk in stopped(plant, places, loads, t):
                    told = chain_of(plant, places, loads, t, desk)
                    self.check_chain(plant, places, loads, t, desk, told)
                    if told[0] == "ring":
                        rings += 1
                        held[tuple(told[1])] = [line_of(plant, name) for name in told[1]]
        self.assertGreater(rings, 200)
        self.assertGreater(freed, 10)

    def left(self, plant, day, floor, held, t):
        """Does a time, and tells the rings of whose lines no good has spoilt, and how many others there were."""
        floor.come(t)
        waiting = floor.places_now()
        spoilt = [entry[2] for entry in floor.spoil(t)]
        kept = {ring: lines for ring, lines in held.items()
                if not any(good in waiting[line] for line in lines for good in spoilt)}
        entry = floor.act(t)
        while entry is not None:
            self.assertFalse(any(entry[2] in ring for ring in kept), entry)
            entry = floor.act(t)
        return kept, len(held) - len(kept)

    def check_chain(self, plant, places, loads, t, desk, told):
        """What the words of the point ask of each chain."""
        halted = stopped(plant, places, loads, t)
        desks = told[1]
        takers = {name: taker_of(plant, line_of(plant, name)) for name in desks}
        self.assertEqual(len(set(desks)), len(desks))
        self.assertEqual([takers[name] for name in desks[:-1]], desks[1:])
        if told[0] == "ring":
            self.assertTrue(set(desks) <= set(halted))
            self.assertEqual(takers[desks[-1]], desks[0])
            while desk not in desks:
                desk = taker_of(plant, line_of(plant, desk))
            self.assertEqual(desk, desks[0])
        else:
            self.assertEqual(desks[0], desk)
            self.assertTrue(set(desks[:-1]) <= set(halted))
            self.assertEqual(desks[-1] in halted, told[0] == "none")
            self.assertTrue(told[0] == "waits" or takers[desks[-1]] is None)


def line_of(plant, name):
    return [desk[1] for desk in plant.desks if desk[0] == name][0]


def taker_of(plant, line):
    takers = [desk[0] for desk in plant.desks if line in desk[3]]
    return takers[0] if takers else None


class Kept(unittest.TestCase):
    """Point 1."""

    def test_nothing_that_is_handed_in_is_changed(self):
        plant = Chains.PLANT
        fields = fields_of(plant)
        for places, loads in ((Chains.FULL, Chains.LOADS), (Chains.FULL, {"d": ((5,), 1), "h": ((10,), 5)}), ({}, {})):
            state = state_of(plant, places, loads)
            kept = copy.deepcopy(state)
            halted = stopped(plant, state[0], state[1], 9)
            for desk in list(halted):
                told = chain_of(plant, state[0], state[1], 9, desk)
                due = copy.deepcopy(told)
                spoil_parts(told)
                self.assertEqual(chain_of(plant, state[0], state[1], 9, desk), due)
            due = list(halted)
            spoil_parts(halted)
            self.assertEqual(stopped(plant, state[0], state[1], 9), due)
            self.assertEqual(state, kept)
            self.assertEqual([list(one) for one in state], [list(one) for one in kept])
        self.assertEqual(fields_of(plant), fields)

    def test_no_list_is_told_twice(self):
        state = state_of(Chains.PLANT, Chains.FULL, Chains.LOADS)
        told = [stopped(Chains.PLANT, state[0], state[1], 9) for count in range(2)]
        told += [chain_of(Chains.PLANT, state[0], state[1], 9, desk) for desk in "ddeefgh"]
        parts = parts_of(told)
        self.assertEqual(len({id(part) for part in parts}), len(parts))


if __name__ == "__main__":
    unittest.main()
