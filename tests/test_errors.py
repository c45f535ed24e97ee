"""Point 3 and the interface's part on mergeline/errors.py."""

import unittest

from mergeline import errors
from mergeline.errors import BadBook, BadDay, BadPlant, MergeError, NoBound

PLACED = (BadPlant, BadDay, BadBook)
REFUSALS = PLACED + (NoBound,)


class Classes(unittest.TestCase):
    def test_merge_error_stands_straight_under_value_error(self):
        self.assertEqual(MergeError.__bases__, (ValueError,))

    def test_each_refusal_stands_straight_under_merge_error(self):
        for refusal in REFUSALS:
            with self.subTest(refusal=refusal.__name__):
                self.assertEqual(refusal.__bases__, (MergeError,))

    def test_no_refusal_stands_under_another_one(self):
        for one in REFUSALS:
            for other in REFUSALS:
                with self.subTest(one=one.__name__, other=other.__name__):
                    self.assertEqual(issubclass(one, other), one is other)

    def test_no_further_refusals(self):
        found = [value for value in vars(errors).values() if isinstance(value, type)]
        self.assertCountEqual(found, (MergeError,) + REFUSALS)


class Fields(unittest.TestCase):
    def test_place_and_word(self):
        for refusal in PLACED:
            for place in (0, 7, 999999):
                with self.subTest(refusal=refusal.__name__, place=place):
                    error = refusal(place, "row")
                    self.assertEqual((error.place, error.word), (place, "row"))

    def test_word_alone(self):
        error = NoBound("hours")
        self.assertEqual(error.word, "hours")
        self.assertFalse(hasattr(error, "place"))

    def test_each_object_has_its_own_fields(self):
        first = BadPlant(1, "row")
        second = BadPlant(2, "name")
        self.assertEqual((first.place, first.word), (1, "row"))
        self.assertEqual((second.place, second.word), (2, "name"))

    def test_fields_by_name(self):
        for refusal in PLACED:
            error = refusal(place=3, word="time")
            self.assertEqual((error.place, error.word), (3, "time"))
        self.assertEqual(NoBound(word="load").word, "load")

    def test_wrong_number_of_arguments(self):
        for refusal in PLACED:
            self.assertRaises(TypeError, refusal)
            self.assertRaises(TypeError, refusal, "row")
            self.assertRaises(TypeError, refusal, 1, "row", 2)
        self.assertRaises(TypeError, NoBound)
        self.assertRaises(TypeError, NoBound, 1, "gate")


class Raised(unittest.TestCase):
    def test_each_is_taken_as_merge_error_and_as_value_error(self):
        for error in (BadPlant(1, "row"), BadDay(1, "time"), BadBook(1, "row"), NoBound("gate")):
            for taken_as in (type(error), MergeError, ValueError):
                with self.assertRaises(taken_as) as taken:
                    raise error
                self.assertIs(taken.exception, error)

    def test_numbers_stay_out_of_the_words(self):
        # A number of more than 4300 figures can't be written out by str.
        for place in (987654, 10 ** 5000):
            for refusal in PLACED:
                error = refusal(place, "row")
                for words in (str(error), repr(error)):
                    self.assertFalse(any(sign.isdigit() for sign in words))


if __name__ == "__main__":
    unittest.main()
