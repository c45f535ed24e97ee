"""Point 14, and point 1 for it."""

import random
import unittest

from mergeline.plants import read_plant
from mergeline.planttext import plant_text
from tests.helper import fields_of, mixed, some_rows

WRITTEN = """\
kind z 3
kind a -
gate y
gate c
line p 2
line b 999999
desk w to p by turns 9 from y
desk d to - by eldest from p c
desk e to b by rank 0 from b
time w z 5
time d a 2
time w a 6
open d 7 8
open d 1 3
open w 2 4
pace c a 4 5
pace y z 1 1"""

# The same rows but for the order of the paces.
OTHER = """
  line p   2
gate y
desk w  to p by turns    9 from y

kind z 3
time w z 5
kind a -
 pace  y z 1 1
gate c
line b 999999

desk d to - by eldest from p c
open d 7 8
time d a 2
open w 2 4
desk e to b by rank 0 from   b
open d 1 3
pace c a 4 5
time w a 6
"""


class Writing(unittest.TestCase):
    def test_all_forms(self):
        self.assertEqual(plant_text(read_plant(WRITTEN)), WRITTEN)

    def test_rows_in_another_order_and_other_blanks(self):
        due = WRITTEN.replace("pace c a 4 5\npace y z 1 1", "pace y z 1 1\npace c a 4 5")
        for text in (OTHER, OTHER.replace("\n", "  \n   \n ")):
            self.assertEqual(plant_text(read_plant(text)), due)

    def test_hours_stand_desk_by_desk_in_the_order_of_the_field(self):
        head = "gate a\ngate b\ndesk d to - by eldest from a\ndesk e to - by eldest from b\n"
        plant = read_plant(head + "open e 5 6\nopen d 1 2\nopen e 0 9\nopen d 3 4\nopen e 5 6")
        self.assertEqual(plant_text(plant), head + "open e 5 6\nopen e 0 9\nopen e 5 6\nopen d 1 2\nopen d 3 4")

    def test_all_rules(self):
        for rule, places in (("turns 1", "a"), ("turns 1 9 3", "b a c"), ("eldest", "a"), ("rank -", "a b"),
                             ("rank 0", "a"), ("rank 999999", "a"), ("many 1", "c"), ("gather 2 0", "c a"), ("meet", "b a"),
                             ("meet", "a b c")):
            for to in ("-", "p"):
                text = f"gate a\ngate b\ngate c\nline p 3\ndesk d to {to} by {rule} from {places}"
                with self.subTest(rule=rule, to=to):
                    self.assertEqual(plant_text(read_plant(text)), text)

    def test_names_that_are_words_of_the_forms(self):
        text = "kind kind 1\ngate from\nline to 1\ndesk by to to by turns 1 1 from from to\ntime by kind 2\npace from kind 1 1"
        self.assertEqual(plant_text(read_plant(text)), text)

    def test_the_empty_plant(self):
        self.assertEqual(plant_text(read_plant(" \n\n")), "")

    def test_one_row_has_no_line_feed(self):
        self.assertEqual(plant_text(read_plant("\n gate  a \n")), "gate a")

    def test_read_again_it_is_the_same(self):
        chance = random.Random(14)
        for count in range(80):
            rows = mixed(chance, some_rows(chance))
            blanks = [" " * chance.randint(0, 2) + row.replace(" ", " " * chance.randint(1, 3)) for row in rows]
            plant = read_plant(chance.choice(["\n", "\n\n", "\n  \n"]).join(blanks))
            held = fields_of(plant)
            text = plant_text(plant)
            again = read_plant(text)
            self.assertEqual(fields_of(again), held)
            self.assertEqual(plant_text(again), text)
            self.assertCountEqual(text.split("\n"), rows)
            self.assertEqual(fields_of(plant), held)


if __name__ == "__main__":
    unittest.main()
