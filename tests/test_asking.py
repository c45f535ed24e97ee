"""Point 81, and point 1 for it."""

import random
import unittest

from mergeline.asking import book_told, bound_told, stops_told
from mergeline.booktext import book_text, read_book
from mergeline.bounds import bound_of
from mergeline.days import day_text, read_day
from mergeline.errors import BadDay, BadPlant, NoBound
from mergeline.floors import Floor
from mergeline.plants import read_plant
from mergeline.planttext import plant_text
from mergeline.running import run_by_turns
from mergeline.stops import chain_of, stopped
from tests.helper import done_at, paced_rows, some_day, some_rows

PLANT = """
kind k -
kind m 4
gate a
gate b
line p 1
line q 1
line s 1
desk d to p by turns 1 1 from a b
desk e to q by eldest from p
desk f to p by eldest from q
time d k 2
"""


def widened(chance, text):
    """The text with more blanks, and with rows of blanks."""
    rows = []
    for row in text.split("\n"):
        rows += ["", " " * chance.randint(1, 4)][:chance.randint(0, 2)]
        words = [word + " " * chance.randint(1, 3) for word in row.split()]
        rows.append(" " * chance.randint(0, 2) + "".join(words))
    return "\n".join(rows + [""] * chance.randint(0, 2))


class Books(unittest.TestCase):
    """Point 81: the day's book."""

    def test_by_hand(self):
        self.assertEqual(book_told(PLANT, "0 a k -\n1 b m x", 6),
                         "0 come 0\n0 take d 0\n1 come 1\n2 put d 0\n2 take d 1\n2 take e 0\n3 put d 1\n3 put e 0\n"
                         "3 take e 1\n3 take f 0\n4 put e 1\n4 put f 0\n4 take e 0\n4 take f 1\n5 put e 0\n5 put f 1\n"
                         "5 take e 1\n5 take f 0\n6 put e 1\n6 put f 0\n6 take e 0\n6 take f 1")

    def test_blanks_and_rows_of_blanks(self):
        plant = "\n  kind  k   -\n\n gate a \n   \ndesk d   to - by eldest  from a\n"
        self.assertEqual(book_told(plant, "  \n\n 3  a   k - \n\n", 9), "3 come 0\n3 take d 0\n4 put d 0")

    def test_an_empty_day(self):
        for rows in ("", "\n", "  \n \n"):
            for until in (0, 5, 2000):
                self.assertEqual(book_told(PLANT, rows, until), "")
                self.assertEqual(book_told("", rows, until), "")

    def test_a_run_to_0(self):
        self.assertEqual(book_told(PLANT, "0 a k -\n1 b m x", 0), "0 come 0\n0 take d 0")
        self.assertEqual(book_told(PLANT, "1 a k -", 0), "")

    def test_many(self):
        chance = random.Random(81)
        for count in range(60):
            plant = read_plant("\n".join(some_rows(chance)))
            day = some_day(chance, plant)
            until = chance.choice([0, 10, 40])
            due = run_by_turns(plant, day, until)
            told = book_told(widened(chance, plant_text(plant)), widened(chance, day_text(day)), until)
            self.assertEqual(told, book_text(due))
            self.assertEqual(read_book(told), due)


class Stops(unittest.TestCase):
    """Point 81: the desks that are stopped behind the run."""

    DAY = "\n".join(["0 a k -"] * 6)

    def test_a_ring(self):
        self.assertEqual(stops_told(PLANT, self.DAY, 60), "d ring e f\ne ring e f\nf ring f e\n")

    def test_waits(self):
        plant = "kind k -\ngate a\nline p 1\ndesk d to p by eldest from a\ndesk e to - by eldest from p\ntime e k 9"
        self.assertEqual(stops_told(plant, self.DAY, 3), "d waits d e\n")

    def test_none(self):
        plant = "kind k -\ngate a\nline p 1\nline q 1\ndesk e to q by eldest from p\ndesk d to p by eldest from a"
        self.assertEqual(stops_told(plant, self.DAY, 9), "e none e\nd none d e\n")

    def test_at_the_end_of_the_run_itself(self):
        plant = "kind k -\ngate a\nline p 1\ndesk d to p by eldest from a\ntime d k 5"
        self.assertEqual(stops_told(plant, self.DAY, 9), "")
        self.assertEqual(stops_told(plant, self.DAY, 10), "d none d\n")
        self.assertEqual(stops_told(plant, self.DAY, 11), "d none d\n")
        self.assertEqual(stops_told(plant, self.DAY, 2000), "d none d\n")

    def test_nothing_stopped(self):
        self.assertEqual(stops_told(PLANT, "0 a k -", 40), "")
        self.assertEqual(stops_told(PLANT, "", 40), "")
        self.assertEqual(stops_told(PLANT, self.DAY, 0), "")
        self.assertEqual(stops_told("", "", 0), "")

    def test_blanks_and_rows_of_blanks(self):
        chance = random.Random(82)
        self.assertEqual(stops_told(widened(chance, PLANT), widened(chance, self.DAY), 60),
                         "d ring e f\ne ring e f\nf ring f e\n")

    def test_many(self):
        chance = random.Random(83)
        words = []
        for count in range(500):
            rows = some_rows(chance)
            # Without the first desk, so that there are lines from which none takes.
            if count % 2 == 0:
                rows = [row for row in rows if row.split()[0] not in ("desk", "time", "open") or row.split()[1] != "d"]
            plant = read_plant("\n".join(rows))
            day = some_day(chance, plant, chance.choice([0, 5, 20]))
            until = chance.choice([0, 10, 40])
            floor = Floor(plant, day)
            for t in range(until + 1):
                done_at(floor, t)
            places, loads = floor.places_now(), floor.loads_now()
            due = ""
            for desk in stopped(plant, places, loads, until):
                word, desks = chain_of(plant, places, loads, until, desk)
                due += f"{desk} {word} {' '.join(desks)}\n"
                words.append(word)
            told = stops_told(widened(chance, plant_text(plant)), widened(chance, day_text(day)), until)
            self.assertEqual(told, due)
        for word in ("ring", "waits", "none"):
            self.assertGreater(words.count(word), 10)


class Bounds(unittest.TestCase):
    """Point 81: what `bound_of` tells."""

    ROWS = "kind k -\ngate a\ndesk d to - by eldest from a\ntime d k 2\npace a k 3 5"

    def test_by_hand(self):
        # The one day of one gate: its burst.
        self.assertEqual(bound_told(self.ROWS, "a"), "4 0 2\n0 a k -\n0 a k -\n0 a k -\n")

    def test_blanks_and_rows_of_blanks(self):
        chance = random.Random(84)
        for count in range(5):
            self.assertEqual(bound_told(widened(chance, self.ROWS), "a"), bound_told(self.ROWS, "a"))

    def test_many(self):
        chance = random.Random(85)
        gaps = []
        for rule in ("eldest", "rank -", "rank 5", "turns"):
            for gates in (1, 2, 3, 5):
                text = "\n".join(paced_rows(chance, rule, gates, 5))
                plant = read_plant(text)
                for gate in plant.gates:
                    try:
                        bound, day, good, gap = bound_of(plant, gate)
                    except NoBound as refused:
                        self.check_refused(text, gate, refused.word)
                    else:
                        rows = [" ".join((str(time), at, kind, "-")) for time, at, kind, parcel in day]
                        told = bound_told(widened(chance, text), gate)
                        self.assertEqual(told, "".join(row + "\n" for row in [f"{bound} {gap} {good}"] + rows))
                        self.assertEqual(read_day(plant, told.partition("\n")[2]), day)
                        gaps.append(gap)
        self.assertGreater(len(gaps), 20)
        self.assertGreater(max(gaps), 0)

    def check_refused(self, text, gate, word):
        with self.assertRaises(NoBound) as taken:
            bound_told(text, gate)
        self.assertEqual(taken.exception.word, word)

    def test_refused(self):
        self.check_refused(self.ROWS, "b", "gate")
        self.check_refused(self.ROWS, "", "gate")
        self.check_refused("", "a", "gate")
        self.check_refused(self.ROWS.replace("eldest", "many 2"), "a", "rule")
        self.check_refused("line p 1\n" + self.ROWS.replace("to -", "to p"), "a", "out")
        self.check_refused(self.ROWS + "\nopen d 0 9", "a", "hours")
        self.check_refused(self.ROWS.replace("pace a k 3 5", ""), "a", "pace")
        self.check_refused(self.ROWS.replace("kind k -", "kind k 9"), "a", "spoil")
        self.check_refused(self.ROWS.replace("pace a k 3 5", "pace a k 3 2"), "a", "load")

    def test_the_plants_text_is_refused_first(self):
        for gate in ("a", "x"):
            with self.assertRaises(BadPlant) as taken:
                bound_told(self.ROWS + "\n\npace a k 3 5", gate)
            self.assertEqual((taken.exception.place, taken.exception.word), (6, "twice"))


class Refused(unittest.TestCase):
    """Point 81: what is refused where a day is handed in."""

    def check(self, kind, plant, day, place, word):
        for told in (book_told, stops_told):
            for until in (0, 20):
                with self.assertRaises(kind) as taken:
                    told(plant, day, until)
                self.assertEqual((taken.exception.place, taken.exception.word), (place, word))

    def test_the_plants_text(self):
        self.check(BadPlant, PLANT + "\n\nkind", "0 a k -", 14, "row")
        self.check(BadPlant, PLANT + "gate p", "", 12, "twice")
        self.check(BadPlant, "gate a\ndesk d to p by eldest from a", "", 1, "name")
        self.check(BadPlant, "gate a\nline p 1\ndesk d to p by many 2 from a", "", 2, "room")

    def test_the_days_text(self):
        self.check(BadDay, PLANT, "0 a k -\n\n0 a k", 2, "row")
        self.check(BadDay, PLANT, "5 a k -\n\n4 a k -", 1, "time")
        self.check(BadDay, PLANT, "\n0 p k -", 0, "gate")
        self.check(BadDay, PLANT, "\n0 a k -\n0 a l -", 1, "kind")
        self.check(BadDay, "", "0 a k -", 0, "gate")

    def test_a_row_not_so_written_ahead_of_a_good_at_fault(self):
        self.check(BadDay, PLANT, "0 x k -\n0 a k", 1, "row")

    def test_the_plants_text_first(self):
        self.check(BadPlant, PLANT + "gate p", "0", 12, "twice")
        self.check(BadPlant, "kind", "0 x k -", 0, "row")


class Kept(unittest.TestCase):
    """Point 1."""

    def test_asked_again_the_same_is_told(self):
        day = "0 a k -\n0 a k -\n1 b m x\n"
        for count in range(3):
            self.assertEqual(book_told(PLANT, day, 9), book_told(PLANT, day, 9))
            self.assertEqual(stops_told(PLANT, Stops.DAY, 60), "d ring e f\ne ring e f\nf ring f e\n")
            self.assertEqual(bound_told(Bounds.ROWS, "a"), "4 0 2\n0 a k -\n0 a k -\n0 a k -\n")

    def test_texts_are_told(self):
        for told in (book_told(PLANT, "", 5), stops_told(PLANT, "", 5), bound_told(Bounds.ROWS, "a")):
            self.assertIs(type(told), str)


if __name__ == "__main__":
    unittest.main()
