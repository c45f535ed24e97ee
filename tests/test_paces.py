"""Point 71, and point 1 for it."""

import random
import unittest

from mergeline.days import look_day
from mergeline.paces import pace_fault
from mergeline.plants import read_plant
from tests.helper import day_of, fields_of, may_come, paced_day, some_day, some_rows


def plant_of(*paces):
    """A plant with gates a to d, kinds k to m and these paces."""
    rows = ["kind k -", "kind l 4", "kind m -", "gate a", "gate b", "gate c", "gate d"]
    return read_plant("\n".join(rows + [f"pace {pace}" for pace in paces]))


class Told(unittest.TestCase):
    """Point 71."""

    def check(self, plant, goods, due):
        day = day_of(*goods)
        look_day(plant, day)
        self.assertEqual(pace_fault(plant, day), due)

    def times(self, burst, gap, times, due):
        self.check(plant_of(f"a k {burst} {gap}"), [f"{time} a k -" for time in times], due)

    def test_an_empty_day(self):
        self.check(plant_of(), [], None)
        self.check(plant_of("a k 1 1"), [], None)

    def test_no_paces(self):
        self.check(plant_of(), ["0 a k -"] * 50, None)

    def test_another_kind(self):
        plant = plant_of("a k 9 1", "b m 9 1")
        self.check(plant, ["0 a k -", "1 b m -"], None)
        self.check(plant, ["0 a l -", "1 b m -"], 0)
        self.check(plant, ["0 a k -", "1 b k -"], 1)
        self.check(plant, ["0 a k -", "1 b m -", "2 a m -", "2 b k -"], 2)
        self.check(plant, ["0 c k -", "0 d l -", "0 a k -", "0 c m -", "0 b m x", "1 a l y"], 5)

    def test_bursts_just_filled_and_one_more(self):
        for burst in (1, 2, 3, 60):
            self.times(burst, 5, [7] * burst, None)
            self.times(burst, 5, [7] * (burst + 1), burst)
            self.times(burst, 5, [0] * (burst + 4), burst)

    def test_a_gap_of_1(self):
        self.times(1, 1, [0, 1, 2, 3, 4], None)
        self.times(1, 1, [0, 1, 1, 2], 2)
        self.times(2, 1, [0, 0, 1, 2, 3, 3], 5)

    def test_gaps_at_ahead_of_and_behind_the_time_due(self):
        for burst in (1, 2, 3):
            for gap in (2, 5, 60):
                full = [3] * burst
                self.times(burst, gap, full + [3 + gap], None)
                self.times(burst, gap, full + [2 + gap], burst)
                self.times(burst, gap, full + [4 + gap], None)
                self.times(burst, gap, full + [3 + gap, 3 + 2 * gap], None)
                self.times(burst, gap, full + [3 + gap, 2 + 2 * gap], burst + 1)
                self.times(burst, gap, full + [3 + gap, 3 + gap], burst + 1)
                self.times(burst, gap, full + [3 + 2 * gap] * 2 + [2 + 3 * gap], burst + (1 if burst == 1 else 2))

    def test_a_gap_that_began_late_is_no_earlier_ended(self):
        self.times(1, 5, [0, 6, 11], None)
        self.times(1, 5, [0, 6, 10], 2)

    def test_bursts_come_back_gap_by_gap(self):
        self.times(3, 4, [0, 0, 0, 8, 8], None)
        self.times(3, 4, [0, 0, 0, 8, 8, 8], 5)
        self.times(3, 4, [0, 0, 0, 11, 11, 11], 5)
        self.times(3, 4, [0, 0, 0, 12, 12, 12], None)
        self.times(3, 4, [0, 0, 0, 99, 99, 99, 99], 6)

    def test_windows_that_begin_at_any_good(self):
        # From the first good on there is no fault, but from a later one on.
        self.times(2, 10, [0, 50, 50, 55], 3)
        self.times(2, 10, [0, 50, 50, 60, 69], 4)
        self.times(2, 10, [0, 50, 50, 60, 70], None)
        self.times(2, 3, [0, 1, 9, 10, 12, 14], 5)
        self.times(2, 3, [0, 1, 9, 10, 12, 15], None)

    def test_several_gates_at_once(self):
        plant = plant_of("a k 2 5", "b k 1 9", "d l 3 2")
        self.check(plant, ["0 a k -", "0 b k -", "0 a k -", "1 d l -", "1 d l -", "1 d l -", "5 a k -", "9 b k -"], None)
        self.check(plant, ["0 a k -", "0 b k -", "0 a k -", "0 c k -", "0 c m -", "4 c k -", "4 b k -", "4 a k -"], 6)
        self.check(plant, ["0 a k -", "0 b k -", "0 a k -", "4 a k -", "4 b k -"], 3)

    def test_the_first_good_at_fault(self):
        plant = plant_of("a k 1 5", "b k 1 5")
        self.check(plant, ["0 a k -", "0 b k -", "1 b k -", "1 a m -"], 2)
        self.check(plant, ["0 a k -", "0 b m -", "1 a k -", "1 a k -"], 1)
        self.check(plant, ["0 a k -", "1 a k -", "2 a k -", "3 a m -"], 1)

    def test_goods_behind_the_first_fault_count_for_nothing(self):
        self.times(1, 5, [0, 5, 9, 9, 9], 2)

    def test_great_numbers(self):
        self.times(999999, 999999, [0] * 100 + [999999] * 100, None)
        self.times(1, 999999, [0, 999998], 1)
        self.times(1, 999999, [0, 999999], None)

    def test_each_window_by_itself(self):
        chance = random.Random(71)
        told = []
        for count in range(400):
            plant = plant_of(f"a k {chance.randint(1, 4)} {chance.randint(1, 6)}", f"b l {chance.randint(1, 2)} 3")
            last = chance.choice([5, 15, 40])
            day = some_day(chance, plant, last)
            day = [good for good in day if good[1] not in ("a", "b") or good[2] == plant.paces[good[1]][0] or
                   chance.random() < 0.05]
            self.assertEqual(pace_fault(plant, day), first_by_windows(plant, day))
            told.append(pace_fault(plant, day))
        self.assertGreater(told.count(None), 50)
        self.assertGreater(len([fault for fault in told if fault is not None and fault > 3]), 50)

    def test_days_within_the_paces(self):
        chance = random.Random(72)
        for count in range(60):
            plant = plant_of(*[f"{gate} {chance.choice('klm')} {chance.randint(1, 5)} {chance.randint(1, 9)}"
                               for gate in "abd"])
            day = paced_day(chance, plant, 40)
            self.assertIsNone(pace_fault(plant, day))
            self.assertIsNone(first_by_windows(plant, day))


def first_by_windows(plant, day):
    """The first good at fault, by all windows that end with it."""
    came = {gate: [] for gate in plant.paces}
    for number, (time, gate, kind, parcel) in enumerate(day):
        if gate in came:
            pace = plant.paces[gate]
            if kind != pace[0] or not may_come(came[gate], time, pace[1], pace[2]):
                return number
            came[gate].append(time)
    return None


class Kept(unittest.TestCase):
    """Point 1."""

    def test_nothing_that_is_handed_in_is_changed(self):
        chance = random.Random(1)
        for count in range(40):
            plant = read_plant("\n".join(some_rows(chance)))
            day = some_day(chance, plant)
            held = (fields_of(plant), list(day))
            told = pace_fault(plant, day)
            self.assertEqual(pace_fault(plant, day), told)
            self.assertEqual((fields_of(plant), day), held)


if __name__ == "__main__":
    unittest.main()
