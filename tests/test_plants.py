"""Points 11, 12, 13 and 15, and points 1 and 3 for them."""

import random
import unittest

from mergeline.errors import BadPlant
from mergeline.plants import Plant, open_at, read_plant, work_of
from tests.helper import FIELDS, fields_of, mixed, plant_parts, some_rows

# What is told ahead of a row that is tried: g is taken from, h, i and j are free; there is room for 3 in l, for 1 in n.
BASE = [
    "kind k 5", "kind m -", "gate g", "gate h", "gate i", "gate j", "line l 3", "line n 1",
    "desk d to l by eldest from g", "time d k 4", "open d 3 9", "pace g k 1 2",
]

# No numbers, and none from 1.
NO_NUMBERS = ("-", "x", "01", "00", "-1", "+1", "1.0", "1000000", "0x1", "1_0")
NO_COUNTS = NO_NUMBERS + ("0",)
NO_NAMES = ("-", "Q", "qQ", "q1", "1", "abcdefghi", "q-", "q.")


class Reading(unittest.TestCase):
    def refused(self, rows):
        with self.assertRaises(BadPlant) as taken:
            read_plant(rows if isinstance(rows, str) else "\n".join(rows))
        return (taken.exception.place, taken.exception.word)

    def check_fault(self, row, word):
        with self.subTest(row=row):
            self.assertEqual(self.refused(BASE + [row]), (len(BASE), word))

    def check_faults(self, rows, word):
        for row in rows:
            self.check_fault(row, word)

    def check_read(self, rows):
        for row in rows:
            with self.subTest(row=row):
                read_plant("\n".join(BASE + [row]))


class Fields(unittest.TestCase):
    """Points 11 and 13."""

    def test_all_forms_and_all_rules(self):
        text = "\n".join([
            "kind apple 12", "kind box -", "gate a", "gate b", "gate c", "gate e", "gate f", "gate h",
            "line p 4", "line q 999999",
            "desk one to p by turns 1 9 from a b", "desk two to - by eldest from c", "desk three to q by rank 0 from e",
            "desk four to q by rank - from p", "desk five to - by many 7 from q", "desk six to p by gather 4 0 from f",
            "gate i", "desk seven to - by meet from h i",
            "time one apple 3", "time two box 1", "time one box 999999",
            "open two 5 9", "open one 0 1", "open two 0 6",
            "pace b apple 2 30", "pace a box 1 1",
        ])
        self.assertEqual(fields_of(read_plant(text)), {
            "kinds": [("apple", 12), ("box", None)],
            "gates": ["a", "b", "c", "e", "f", "h", "i"],
            "lines": [("p", 4), ("q", 999999)],
            "desks": [
                ("one", "p", ("turns", (1, 9)), ("a", "b")),
                ("two", "", ("eldest",), ("c",)),
                ("three", "q", ("rank", 0), ("e",)),
                ("four", "q", ("rank", None), ("p",)),
                ("five", "", ("many", 7), ("q",)),
                ("six", "p", ("gather", 4, 0), ("f",)),
                ("seven", "", ("meet",), ("h", "i")),
            ],
            "times": [(("one", "apple"), 3), (("two", "box"), 1), (("one", "box"), 999999)],
            "hours": [("two", [(5, 9), (0, 6)]), ("one", [(0, 1)])],
            "paces": [("b", ("apple", 2, 30)), ("a", ("box", 1, 1))],
        })

    def test_kinds_of_the_fields(self):
        plant = read_plant("\n".join(BASE))
        self.assertIsInstance(plant, Plant)
        kinds = [type(getattr(plant, name)) for name in FIELDS]
        self.assertEqual(kinds, [dict, list, dict, list, dict, dict, dict])

    def test_names_that_are_words_of_the_forms(self):
        text = "\n".join([
            "kind kind 1", "kind gate -", "kind from 2", "gate from", "gate desk", "gate gate",
            "line to 1", "line by 2", "line open 2", "line line 1", "line time 1",
            "desk to to to by turns 1 2 from from by", "desk from to by by rank - from to",
            "desk by to open by gather 2 3 from desk", "desk desk to - by meet from open line",
            "desk time to - by eldest from time", "desk open to time by rank 3 from gate",
            "time to kind 2", "time time from 3", "open to 1 2", "open open 1 2", "pace from from 1 1",
        ])
        self.assertEqual(fields_of(read_plant(text)), {
            "kinds": [("kind", 1), ("gate", None), ("from", 2)],
            "gates": ["from", "desk", "gate"],
            "lines": [("to", 1), ("by", 2), ("open", 2), ("line", 1), ("time", 1)],
            "desks": [
                ("to", "to", ("turns", (1, 2)), ("from", "by")),
                ("from", "by", ("rank", None), ("to",)),
                ("by", "open", ("gather", 2, 3), ("desk",)),
                ("desk", "", ("meet",), ("open", "line")),
                ("time", "", ("eldest",), ("time",)),
                ("open", "time", ("rank", 3), ("gate",)),
            ],
            "times": [(("to", "kind"), 2), (("time", "from"), 3)],
            "hours": [("to", [(1, 2)]), ("open", [(1, 2)])],
            "paces": [("from", ("from", 1, 1))],
        })

    def test_places_called_like_the_words_of_a_desk(self):
        text = "gate from\ngate to\ngate by\ngate desk\ngate turns\ngate meet\ndesk a to - by meet from "
        plant = read_plant(text + "to from by desk turns meet")
        self.assertEqual(plant.desks, [("a", "", ("meet",), ("to", "from", "by", "desk", "turns", "meet"))])
        plant = read_plant("gate from\ngate to\ndesk from to - by turns 3 4 from to from")
        self.assertEqual(plant.desks, [("from", "", ("turns", (3, 4)), ("to", "from"))])

    def test_one_name_for_a_kind_a_place_and_a_desk(self):
        plant = read_plant("kind a 1\ngate a\ndesk a to - by eldest from a\ntime a a 2\npace a a 1 1")
        self.assertEqual(plant.desks, [("a", "", ("eldest",), ("a",))])
        self.assertEqual((plant.times, plant.paces), ({("a", "a"): 2}, {"a": ("a", 1, 1)}))

    def test_rows_of_unlike_sorts_in_any_order(self):
        text = "\n".join([
            "line z 2", "gate y", "desk w to z by eldest from y", "kind v 3", "open w 7 8", "time w v 5", "line b 1",
            "kind a -", "gate c", "pace c a 4 5", "desk d to b by rank 1 from z c", "time d v 2", "open w 1 3",
            "pace y v 1 1", "time w a 6", "gate x",
        ])
        self.assertEqual(fields_of(read_plant(text)), {
            "kinds": [("v", 3), ("a", None)],
            "gates": ["y", "c", "x"],
            "lines": [("z", 2), ("b", 1)],
            "desks": [("w", "z", ("eldest",), ("y",)), ("d", "b", ("rank", 1), ("z", "c"))],
            "times": [(("w", "v"), 5), (("d", "v"), 2), (("w", "a"), 6)],
            "hours": [("w", [(7, 8), (1, 3)])],
            "paces": [("c", ("a", 4, 5)), ("y", ("v", 1, 1))],
        })

    def test_a_desk_may_put_where_it_or_another_one_takes(self):
        plant = read_plant("line p 1\nline q 1\ndesk a to p by eldest from p\ndesk b to p by eldest from q")
        self.assertEqual([desk[1] for desk in plant.desks], ["p", "p"])

    def test_blanks_and_rows_of_blanks(self):
        plain = read_plant("\n".join(BASE))
        for rows in (
            ["  " + row for row in BASE],
            [row + "   " for row in BASE],
            [row.replace(" ", "   ") for row in BASE],
            ["", "  "] + [part for row in BASE for part in (" " + row.replace(" ", "  ") + " ", "", "    ")],
        ):
            self.assertEqual(fields_of(read_plant("\n".join(rows))), fields_of(plain))
        self.assertEqual(fields_of(read_plant("\n".join(BASE) + "\n")), fields_of(plain))

    def test_texts_without_words(self):
        for text in ("", "\n", "   ", " \n\n  "):
            with self.subTest(text=text):
                self.assertEqual(fields_of(read_plant(text)), {name: [] for name in FIELDS})

    def test_a_plant_read_twice_shares_nothing(self):
        text = "\n".join(BASE + ["desk e to - by eldest from h", "open e 1 2", "open d 1 2"])
        one, other = read_plant(text), read_plant(text)
        parts = plant_parts(one) + plant_parts(other)
        self.assertEqual(len(parts), 2 * (len(FIELDS) + 2))
        self.assertEqual(len({id(part) for part in parts}), len(parts))
        one.hours["d"].append("x")
        one.gates.clear()
        one.kinds.clear()
        self.assertEqual(fields_of(read_plant(text)), fields_of(other))
        self.assertEqual(other.hours, {"d": [(3, 9), (1, 2)], "e": [(1, 2)]})

    def test_a_refused_text_leaves_nothing_behind(self):
        self.assertRaises(BadPlant, read_plant, "\n".join(BASE + ["gate"]))
        self.assertEqual(fields_of(read_plant("")), {name: [] for name in FIELDS})


class FaultRow(Reading):
    """Point 12, the word `row`."""

    def test_no_form_at_all(self):
        self.check_faults(["x", "kinds q 1", "Kind q 1", "-", "0", "k", "rule eldest", "kind\tq\t1", "#", "# kind q 1"],
                          "row")

    def test_kind(self):
        self.check_read(["kind q 1", "kind q 999999", "kind q -", "kind abcdefgh 1"])
        self.check_faults(["kind", "kind q", "kind q 1 1", "kind q - -"], "row")
        self.check_faults([f"kind q {word}" for word in NO_COUNTS if word != "-"], "row")
        self.check_faults([f"kind {word} 1" for word in NO_NAMES], "row")

    def test_gate(self):
        self.check_read(["gate q", "gate k", "gate d"])
        self.check_faults(["gate", "gate q q", "gate q 1"], "row")
        self.check_faults([f"gate {word}" for word in NO_NAMES], "row")

    def test_line(self):
        self.check_read(["line q 1", "line q 999999"])
        self.check_faults(["line", "line q", "line q 1 1"], "row")
        self.check_faults([f"line q {word}" for word in NO_COUNTS], "row")
        self.check_faults([f"line {word} 1" for word in NO_NAMES], "row")

    def test_time(self):
        self.check_read(["time d m 1", "time d m 999999"])
        self.check_faults(["time", "time d", "time d m", "time d m 1 1"], "row")
        self.check_faults([f"time d m {word}" for word in NO_COUNTS], "row")
        self.check_faults([f"time {word} m 1" for word in NO_NAMES], "row")
        self.check_faults([f"time d {word} 1" for word in NO_NAMES], "row")

    def test_open(self):
        self.check_read(["open d 0 1", "open d 999998 999999", "open d 3 9"])
        self.check_faults(["open", "open d", "open d 1", "open d 1 2 3"], "row")
        self.check_faults(["open d 2 2", "open d 0 0", "open d 3 2", "open d 10 9", "open d 100 99"], "row")
        self.check_faults([f"open d {word} 999999" for word in NO_NUMBERS], "row")
        self.check_faults([f"open d 0 {word}" for word in NO_NUMBERS], "row")
        self.check_faults([f"open {word} 1 2" for word in NO_NAMES], "row")

    def test_pace(self):
        self.check_read(["pace h k 1 1", "pace h m 999999 999999"])
        self.check_faults(["pace", "pace h", "pace h k", "pace h k 1", "pace h k 1 1 1"], "row")
        self.check_faults([f"pace h k {word} 1" for word in NO_COUNTS], "row")
        self.check_faults([f"pace h k 1 {word}" for word in NO_COUNTS], "row")
        self.check_faults([f"pace {word} k 1 1" for word in NO_NAMES], "row")
        self.check_faults([f"pace h {word} 1 1" for word in NO_NAMES], "row")

    def test_desk_words_left_out_or_added(self):
        self.check_read(["desk e to l by eldest from h", "desk e to - by eldest from h i j l n"])
        whole = "desk e to l by eldest from h".split()
        for length in range(1, len(whole)):
            self.check_fault(" ".join(whole[:length]), "row")
        for at in range(1, len(whole)):
            self.check_fault(" ".join(whole[:at] + whole[at + 1:]), "row")
        for at in range(1, len(whole) - 1):
            self.check_fault(" ".join(whole[:at] + ["x"] + whole[at:]), "row")

    def test_desk_words_that_are_others(self):
        self.check_faults(["desk e at l by eldest from h", "desk e to l with eldest from h", "desk e to l by eldest of h",
                           "desk e by l to eldest from h", "desk e to l from h by eldest", "desk e to l by from from h",
                           "desk e to l by from h", "desk from from from from from from from from"], "row")

    def test_desk_names(self):
        self.check_faults([f"desk {word} to l by eldest from h" for word in NO_NAMES], "row")
        self.check_faults([f"desk e to {word} by eldest from h" for word in NO_NAMES if word != "-"], "row")
        self.check_faults([f"desk e to l by eldest from {word}" for word in NO_NAMES], "row")
        self.check_faults([f"desk e to l by eldest from h {word} i" for word in NO_NAMES], "row")

    def test_desk_places(self):
        more = ["gate a", "gate b", "gate c"]
        read_plant("\n".join(BASE + more + ["desk e to - by eldest from a b c h i j"]))
        rows = BASE + more + ["desk e to - by eldest from a b c h i j l"]
        self.assertEqual(self.refused(rows), (len(rows) - 1, "row"))
        self.check_faults(["desk e to - by eldest from", "desk e to - by eldest from h h",
                           "desk e to - by turns 1 1 1 from h i h", "desk e to - by meet from h h"], "row")

    def test_rules_with_a_wrong_number_of_words(self):
        self.check_read([f"desk e to - by {rule} from h i" for rule in
                         ("turns 1 9", "eldest", "rank -", "rank 0", "many 1", "gather 1 0", "meet")])
        for rule in ("eldest 1", "eldest -", "rank", "rank 1 1", "rank - -", "many", "many 1 1", "gather", "gather 1",
                     "gather 1 1 1", "meet 1", "meet meet", "turns", "turns 1", "turns 1 1 1", "youngest", "Eldest", "-"):
            self.check_fault(f"desk e to - by {rule} from h i", "row")

    def test_a_share_for_each_place_and_no_more(self):
        self.check_read(["desk e to - by turns 1 from h", "desk e to - by turns 1 1 1 1 from h i j l"])
        for many in range(1, 5):
            places = " ".join("hijl"[:many])
            for shares in range(7):
                if shares != many:
                    self.check_fault(f"desk e to - by turns{' 1' * shares} from {places}", "row")

    def test_shares_from_1_to_9(self):
        self.check_read([f"desk e to - by turns {share} from h" for share in range(1, 10)])
        for share in NO_COUNTS + ("10", "11", "99"):
            self.check_faults([f"desk e to - by turns {share} from h", f"desk e to - by turns 1 {share} from h i"], "row")

    def test_numbers_of_the_other_rules(self):
        for word in NO_COUNTS:
            self.check_faults([f"desk e to - by many {word} from h", f"desk e to - by gather {word} 1 from h"], "row")
        for word in NO_NUMBERS:
            self.check_fault(f"desk e to - by gather 1 {word} from h", "row")
            if word != "-":
                self.check_fault(f"desk e to - by rank {word} from h", "row")

    def test_meet_with_one_place(self):
        self.check_fault("desk e to - by meet from h", "row")


class FaultTwice(Reading):
    def test_kinds_places_and_desks(self):
        self.check_faults(["kind k 5", "kind k -", "kind m 7", "gate g", "gate j", "gate l", "line l 3", "line l 9",
                           "line g 1", "desk d to - by eldest from h"], "twice")

    def test_names_of_unlike_sorts_are_apart(self):
        self.check_read(["kind g 1", "kind d 1", "gate k", "gate d", "line k 1", "line d 1",
                         "desk k to - by eldest from h", "desk g to - by eldest from h"])

    def test_a_place_that_an_earlier_desk_takes_from(self):
        self.check_faults(["desk e to - by eldest from g", "desk e to - by eldest from h i g"], "twice")
        rows = BASE + ["desk e to - by eldest from h l", "desk f to - by eldest from i l"]
        self.assertEqual(self.refused(rows), (len(BASE) + 1, "twice"))

    def test_times_and_paces(self):
        self.check_faults(["time d k 4", "time d k 1", "pace g k 1 2", "pace g m 3 3"], "twice")
        self.check_read(["time d m 4", "pace h k 1 2"])

    def test_hours_may_be_told_again(self):
        self.check_read(["open d 3 9"])


class FaultName(Reading):
    def test_names_that_no_row_has_told(self):
        self.check_faults([
            "desk e to x by eldest from h", "desk e to - by eldest from x", "desk e to l by eldest from h x",
            "time x k 1", "time d x 1", "open x 1 2", "pace x k 1 1", "pace h x 1 1",
        ], "name")

    def test_names_of_another_sort(self):
        self.check_faults([
            "desk e to g by eldest from h", "desk e to d by eldest from h", "desk e to k by eldest from h",
            "desk e to - by eldest from d", "desk e to - by eldest from k",
            "time g k 1", "time d g 1", "time d d 1", "open g 1 2", "open l 1 2",
            "pace l k 1 1", "pace d k 1 1", "pace h g 1 1", "pace h d 1 1",
        ], "name")

    def test_names_told_by_a_later_row(self):
        for rows in (
            ["gate a", "desk d to p by eldest from a", "line p 1"],
            ["line p 1", "desk d to p by eldest from a", "gate a"],
            ["gate a", "time d k 1", "kind k 1", "desk d to - by eldest from a"],
            ["gate a", "open d 1 2", "desk d to - by eldest from a"],
            ["gate a", "pace a k 1 1", "kind k 1"],
            ["kind k 1", "pace a k 1 1", "gate a"],
        ):
            with self.subTest(rows=rows):
                self.assertEqual(self.refused(rows), (1, "name"))

    def test_a_line_that_the_desk_itself_would_tell(self):
        self.check_fault("desk e to e by eldest from h", "name")


class FaultRoom(Reading):
    def test_one_good_finds_room_in_any_line(self):
        self.check_read([f"desk e to n by {rule} from h" for rule in
                         ("turns 9", "eldest", "rank -", "rank 9", "many 1", "gather 1 9")])

    def test_many_and_gather(self):
        self.check_read(["desk e to l by many 3 from h", "desk e to l by gather 3 9 from h"])
        self.check_faults(["desk e to l by many 4 from h", "desk e to l by gather 4 0 from h",
                           "desk e to n by many 2 from h", "desk e to n by gather 2 0 from h i j"], "room")

    def test_meet(self):
        self.check_read(["desk e to l by meet from h i", "desk e to l by meet from h i j"])
        self.check_faults(["desk e to l by meet from h i j n", "desk e to n by meet from h i"], "room")

    def test_out_has_room_for_all(self):
        self.check_read(["desk e to - by many 999999 from h", "desk e to - by gather 999999 0 from h",
                         "desk e to - by meet from h i j l n"])

    def test_a_desk_that_takes_from_its_own_line(self):
        self.check_read(["desk e to l by many 3 from l"])
        self.check_fault("desk e to l by many 4 from l", "room")


class FaultOrder(Reading):
    def test_row_ahead_of_the_others(self):
        self.check_faults([
            "kind k 0", "gate g g", "line l 0", "desk d to l by eldest from g g", "time d k 0", "pace g k 1 0",
            "time x x 0", "open x 2 2", "pace x x 0 1", "desk e to x by meet from x",
            "desk e to n by many 2 from h h", "desk d to x by turns 1 from g x",
        ], "row")

    def test_twice_ahead_of_name_and_room(self):
        self.check_faults([
            "desk d to x by eldest from h", "desk d to - by eldest from x", "desk e to x by eldest from g",
            "desk e to - by eldest from g x", "desk e to - by eldest from x g", "desk d to n by many 2 from h",
            "desk e to n by meet from h g", "desk d to x by many 2 from g x", "pace g x 1 1",
        ], "twice")

    def test_name_ahead_of_room(self):
        self.check_faults(["desk e to n by many 2 from x", "desk e to n by meet from h x"], "name")

    def test_the_first_row_from_the_top(self):
        self.assertEqual(self.refused(["gate a", "gate a", "kind"]), (1, "twice"))
        self.assertEqual(self.refused(["gate a", "kind", "gate a"]), (1, "row"))
        self.assertEqual(self.refused(["open x 1 2", "gate", "gate a"]), (0, "name"))
        rows = ["line p 1", "gate a", "desk d to p by many 2 from a", "gate a", "gate"]
        self.assertEqual(self.refused(rows), (2, "room"))

    def test_all_rows_are_counted(self):
        self.assertEqual(self.refused("\n  \ngate a\n\n   \ngate a\n"), (5, "twice"))
        self.assertEqual(self.refused("   \n\nx"), (2, "row"))
        self.assertEqual(self.refused("x"), (0, "row"))
        self.assertEqual(self.refused("  x  \n\n"), (0, "row"))


class Times(unittest.TestCase):
    """Point 15."""

    def setUp(self):
        self.plant = read_plant("\n".join(BASE + ["time d m 7", "desk e to - by eldest from h"]))

    def test_a_time_told(self):
        self.assertEqual(work_of(self.plant, "d", "k"), 4)
        self.assertEqual(work_of(self.plant, "d", "m"), 7)

    def test_a_time_not_told_is_1(self):
        self.assertEqual(work_of(self.plant, "e", "k"), 1)
        self.assertEqual(work_of(self.plant, "e", "m"), 1)


class Hours(unittest.TestCase):
    """Point 15."""

    def open_times(self, rows, last=30):
        plant = read_plant("gate a\ngate b\ndesk d to - by eldest from a\ndesk e to - by eldest from b\n" + rows)
        for time in range(last):
            self.assertIs(open_at(plant, "e", time), True)
            self.assertIsInstance(open_at(plant, "d", time), bool)
        return [time for time in range(last) if open_at(plant, "d", time)]

    def test_a_desk_without_hours_is_always_open(self):
        self.assertEqual(self.open_times(""), list(range(30)))

    def test_at_ahead_of_and_behind_begin_and_end(self):
        plant = read_plant("gate a\ndesk d to - by eldest from a\nopen d 10 20\nopen d 40 41\nopen d 0 2")
        told = {-1: False, 0: True, 1: True, 2: False, 3: False, 9: False, 10: True, 11: True, 19: True, 20: False,
                21: False, 39: False, 40: True, 41: False, 42: False, 999999: False}
        for time, due in told.items():
            with self.subTest(time=time):
                self.assertIs(open_at(plant, "d", time), due)

    def test_hours_that_overlap_or_meet(self):
        self.assertEqual(self.open_times("open d 5 9\nopen d 7 12"), list(range(5, 12)))
        self.assertEqual(self.open_times("open d 7 12\nopen d 5 9"), list(range(5, 12)))
        self.assertEqual(self.open_times("open d 3 15\nopen d 5 7"), list(range(3, 15)))
        self.assertEqual(self.open_times("open d 5 7\nopen d 7 9"), list(range(5, 9)))
        self.assertEqual(self.open_times("open d 5 7\nopen d 8 9\nopen d 5 7"), [5, 6, 8])

    def test_twenty_rows(self):
        rows = "\n".join(f"open d {start} {start + 1}" for start in range(0, 40, 2))
        self.assertEqual(self.open_times(rows, 45), list(range(0, 40, 2)))


class HandedIn(unittest.TestCase):
    """Point 1."""

    def test_asking_changes_no_plant(self):
        plant = read_plant("\n".join(BASE))
        held = fields_of(plant)
        for desk in ("d", "e"):
            for kind in ("k", "m"):
                work_of(plant, desk, kind)
            for time in range(12):
                open_at(plant, desk, time)
        self.assertEqual(fields_of(plant), held)
        self.assertEqual(held["times"], [(("d", "k"), 4)])
        self.assertEqual(held["hours"], [("d", [(3, 9)])])


class AnyPlant(unittest.TestCase):
    def test_each_row_is_read_and_found_in_its_field(self):
        chance = random.Random(12)
        fields = {"kind": "kinds", "gate": "gates", "line": "lines", "desk": "desks", "time": "times", "open": "hours",
                  "pace": "paces"}
        for count in range(60):
            rows = mixed(chance, some_rows(chance))
            plant = read_plant("\n".join(rows))
            for form, name in fields.items():
                words = [row.split() for row in rows if row.split()[0] == form]
                if form == "time":
                    due = [(row[1], row[2]) for row in words]
                else:
                    due = list(dict.fromkeys(row[1] for row in words))
                field = getattr(plant, name)
                self.assertEqual([one[0] for one in field] if form == "desk" else list(field), due)


if __name__ == "__main__":
    unittest.main()
