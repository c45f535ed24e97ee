"""The whole program on many plants and days: points 1, 14, 22, 43, 51 to 55, 61 to 64, 71, 72 and 81 held together."""

import copy
import random
import unittest

from mergeline.asking import book_told, bound_told, stops_told
from mergeline.books import first_fault, replayed
from mergeline.booktext import book_text, read_book
from mergeline.bounds import bound_of
from mergeline.days import day_text, look_day, read_day
from mergeline.errors import NoBound
from mergeline.floors import Floor
from mergeline.paces import pace_fault
from mergeline.plants import read_plant
from mergeline.planttext import plant_text
from mergeline.running import run_by_events, run_by_turns
from mergeline.stops import chain_of, stopped
from mergeline.waits import longest, waits_of
from tests.helper import (
    done_at, fields_of, mixed, paced_day, paced_rows, parts_of, plant_parts, some_day, some_rows, spoil_parts)

RULES = ("turns", "eldest", "rank", "many", "gather", "meet", "")


def each_plant(seed, many):
    """Plants of all rules by chance, each with a day."""
    chance = random.Random(seed)
    for count in range(many):
        plant = read_plant("\n".join(mixed(chance, some_rows(chance, 1, RULES[count % len(RULES)]))))
        yield plant, some_day(chance, plant, chance.choice([0, 6, 25]))


def each_paced(seed, many):
    """Plants with paces by chance, each with the gates that a bound is told for and a day within the paces."""
    chance = random.Random(seed)
    for count in range(many):
        rule = ("eldest", "rank -", "rank 6", "turns")[count % 4]
        plant = read_plant("\n".join(mixed(chance, paced_rows(chance, rule, chance.randint(1, 6), 5))))
        gates = [gate for gate in plant.gates if not isinstance(told_of(plant, gate), str)]
        yield plant, gates, paced_day(chance, plant, 60)


def told_of(plant, gate):
    """What `bound_of` tells, or the word with which it refuses."""
    try:
        return bound_of(plant, gate)
    except NoBound as refused:
        return refused.word


class Books(unittest.TestCase):
    """Points 43 and 51 to 55."""

    def test_books_of_both_runs(self):
        for plant, day in each_plant(1, 140):
            for until in (0, 12, 50):
                book = run_by_events(plant, day, until)
                self.assertEqual(run_by_turns(plant, day, until), book)
                self.assertIsNone(first_fault(plant, day, until, book))
                self.assertEqual(read_book(book_text(book)), book)
                floor = Floor(plant, day)
                self.assertEqual([entry for t in range(until + 1) for entry in done_at(floor, t)], book)
                self.assertEqual(replayed(plant, day, book), (floor.places_now(), floor.loads_now()))

    def test_a_book_that_lacks_an_entry_is_at_fault_there(self):
        chance = random.Random(2)
        found = 0
        for plant, day in each_plant(2, 70):
            book = run_by_turns(plant, day, 30)
            if book:
                place = chance.randrange(len(book))
                lacking = book[:place] + book[place + 1:]
                self.assertEqual(first_fault(plant, day, 30, lacking), (place, book[place]))
                self.assertEqual(first_fault(plant, day, 30, book + book[:1]), (len(book), None))
                found += 1
        self.assertGreater(found, 40)

    def test_days_within_paces(self):
        for plant, gates, day in each_paced(3, 40):
            book = run_by_events(plant, day, 200)
            self.assertEqual(run_by_turns(plant, day, 200), book)
            self.assertIsNone(first_fault(plant, day, 200, read_book(book_text(book))))


class Stops(unittest.TestCase):
    """Points 61 and 62."""

    def test_stops_and_chains_of_floors(self):
        words = []
        for plant, day in each_plant(4, 140):
            floor = Floor(plant, day)
            for t in range(31):
                done_at(floor, t)
            places, loads = floor.places_now(), floor.loads_now()
            halted = stopped(plant, places, loads, 30)
            self.assertEqual(halted, [name for name in loads if loads[name] is not None and loads[name][1] <= 30])
            rows = []
            for desk in halted:
                word, desks = chain_of(plant, places, loads, 30, desk)
                self.assertEqual(set(desks) <= set(halted), word != "waits")
                self.assertTrue(word == "ring" or desks[0] == desk)
                rows.append(" ".join([desk, word] + desks) + "\n")
                words.append(word)
            self.assertEqual(stops_told(plant_text(plant), day_text(day), 30), "".join(rows))
        self.assertIn("ring", words)
        self.assertIn("waits", words)


class Waits(unittest.TestCase):
    """Points 63 and 64: what the stays of a day's book tell of its desks."""

    def each(self, seed, word):
        """Plants with desks of a rule by which one good is taken at once: each desk, its places' stays, and those taken."""
        chance = random.Random(seed)
        self.found = 0
        for count in range(120):
            plant = read_plant("\n".join(some_rows(chance, 1, word)))
            day = some_day(chance, plant, chance.choice([0, 6, 25]))
            book = run_by_events(plant, day, 50)
            waits = waits_of(plant, day, book)
            for desk in [desk for desk in plant.desks if desk[2][0] == word]:
                stays = [stay for one in waits for stay in one if stay[0] in desk[3]]
                takes = [entry for entry in book if entry[0] == "take" and entry[2] == desk[0]]
                taken = [stay for entry in takes for stay in waits[entry[3][0]] if stay[2] == entry[1]]
                self.assertEqual(len(taken), len(takes))
                self.found += len(taken)
                yield desk, stays, taken

    def left(self, stays, time):
        """The stays that began ahead of a time and go on beyond it."""
        return [stay for stay in stays if stay[1] < time and (stay[2] is None or stay[2] > time)]

    def test_eldest_takes_none_that_is_younger_than_one_that_waits(self):
        for desk, stays, taken in self.each(641, "eldest"):
            for place, since, time in taken:
                self.assertTrue(all(stay[1] >= since for stay in self.left(stays, time)))
        self.assertGreater(self.found, 200)

    def test_rank(self):
        for desk, stays, taken in self.each(642, "rank"):
            for place, since, time in taken:
                left = self.left(stays, time)
                if desk[2][1] is None:
                    self.assertTrue(all(desk[3].index(stay[0]) >= desk[3].index(place) for stay in left))
                else:
                    self.assertTrue(all(stay[1] >= since for stay in left if time - stay[1] >= desk[2][1]))
        self.assertGreater(self.found, 200)

    def test_turns(self):
        passed = 0
        for desk, stays, taken in self.each(643, "turns"):
            for place in desk[3]:
                first = 0
                own = [stay for stay in stays if stay[0] == place]
                for stay in sorted(own, key=lambda one: (one[1], one[2] is None, one[2] or 0)):
                    # Between these two times, and not at them, it is sure to stand first.
                    begin, end = max(first, stay[1]), 51 if stay[2] is None else stay[2]
                    for other, share in zip(desk[3], desk[2][1]):
                        many = len([one for one in taken if one[0] == other and begin < one[2] < end])
                        self.assertLessEqual(many, 0 if other == place else share)
                        passed += many
                    first = max(first, end)
        self.assertGreater(passed, 50)

    def test_stays_follow_one_another(self):
        for plant, day in each_plant(644, 140):
            book = run_by_turns(plant, day, 50)
            waits = waits_of(plant, day, book)
            self.assertEqual(len(waits), len(day))
            for good, stays in zip(day, waits):
                self.assertEqual([stay[:2] for stay in stays[:1]], [(good[1], good[0])] if good[0] <= 50 else [])
                for stay, behind in zip(stays, stays[1:]):
                    self.assertTrue(stay[1] <= stay[2] < behind[1])
            ends = [50 if stay[2] is None else stay[2] for stays in waits for stay in stays]
            begins = [stay[1] for stays in waits for stay in stays]
            self.assertEqual(longest(waits, 50), max([end - begin for end, begin in zip(ends, begins)] + [0]))


class Bounds(unittest.TestCase):
    """Points 71 and 72."""

    def test_bounds_told_ahead_and_waits_of_days_within_the_paces(self):
        told = 0
        for plant, gates, day in each_paced(72, 60):
            self.assertIsNone(pace_fault(plant, day))
            for until in (20, 60, 200):
                waits = waits_of(plant, day, run_by_events(plant, day, until))
                for gate in gates:
                    stays = [one for good, one in zip(day, waits) if good[1] == gate]
                    self.assertLessEqual(longest(stays, until), bound_of(plant, gate)[0])
                    told += 1
        self.assertGreater(told, 200)

    def test_the_days_told(self):
        for plant, gates, day in each_paced(73, 40):
            for gate in gates:
                bound, worst, good, gap = bound_of(plant, gate)
                self.assertTrue(look_day(plant, worst))
                self.assertIsNone(pace_fault(plant, worst))
                waits = waits_of(plant, worst, run_by_events(plant, worst, worst[good][0] + bound))
                self.assertEqual(waits[good], [(gate, worst[good][0], worst[good][0] + bound - gap)])


class Texts(unittest.TestCase):
    """Points 14, 22, 52 and 81: written, read and written again."""

    def test_plants_days_and_books(self):
        for plant, day in each_plant(14, 140):
            rows = plant_text(plant)
            self.assertEqual(fields_of(read_plant(rows)), fields_of(plant))
            self.assertEqual(plant_text(read_plant(rows)), rows)
            self.assertEqual(read_day(plant, day_text(day)), day)
            self.assertEqual(day_text(read_day(plant, day_text(day))), day_text(day))
            told = book_told(rows, day_text(day), 30)
            self.assertEqual(book_text(read_book(told)), told)
            self.assertEqual(read_book(told), run_by_turns(plant, day, 30))

    def test_bounds(self):
        for plant, gates, day in each_paced(81, 40):
            for gate in gates:
                head, behind, rows = bound_told(plant_text(plant), gate).partition("\n")
                bound, worst, good, gap = bound_of(plant, gate)
                self.assertEqual(head, f"{bound} {gap} {good}")
                self.assertEqual(read_day(plant, rows), worst)
                self.assertEqual(day_text(worst) + "\n", rows)


class Kept(unittest.TestCase):
    """Point 1."""

    def all_told(self, plant, day, book, waits):
        """All that the program tells of these."""
        places, loads = replayed(plant, day, book)
        floor = Floor(plant, day)
        done_at(floor, 0)
        return [
            run_by_turns(plant, day, 30), run_by_events(plant, day, 30), first_fault(plant, day, 30, book),
            replayed(plant, day, book), stopped(plant, places, loads, 30), waits_of(plant, day, book),
            [chain_of(plant, places, loads, 30, desk) for desk in stopped(plant, places, loads, 30)],
            longest(waits, 30), pace_fault(plant, day), [told_of(plant, gate) for gate in plant.gates],
            floor.places_now(), floor.loads_now(), read_book(book_text(book)), read_day(plant, day_text(day)),
            book_text(book), plant_text(plant), day_text(day),
            book_told(plant_text(plant), day_text(day), 30), stops_told(plant_text(plant), day_text(day), 30),
        ]

    def each(self):
        for plant, day in each_plant(5, 70):
            yield plant, day
        for plant, gates, day in each_paced(6, 12):
            yield plant, day

    def test_nothing_that_is_handed_in_is_changed_and_what_is_told_is_the_askers_own(self):
        for plant, day in self.each():
            book = run_by_events(plant, day, 30)
            waits = waits_of(plant, day, book)
            held = copy.deepcopy((fields_of(plant), day, book, waits))
            told = self.all_told(plant, day, book, waits)
            self.assertEqual((fields_of(plant), day, book, waits), held)
            due = copy.deepcopy(told)
            spoil_parts(told)
            self.assertEqual((fields_of(plant), day, book, waits), held)
            self.assertEqual(self.all_told(plant, day, book, waits), due)

    def test_no_two_lists_or_dicts_are_one(self):
        for plant, day in self.each():
            book = run_by_events(plant, day, 30)
            waits = waits_of(plant, day, book)
            parts = parts_of([self.all_told(plant, day, book, waits) for count in range(2)])
            parts += parts_of([day, book, waits]) + plant_parts(plant)
            self.assertEqual(len({id(part) for part in parts}), len(parts))


if __name__ == "__main__":
    unittest.main()
