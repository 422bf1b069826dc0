import unittest

from evenkin import errors
from evenkin.errors import KinError, NoLine, NoName, NoOrder, NoStep, NoText, NoWeb

PLACED = (NoWeb, NoStep)
PLAIN = (NoOrder, NoText, NoName, NoLine)


class Errors(unittest.TestCase):
    def test_any_refusal_is_a_value_error(self):
        self.assertEqual(KinError.__bases__, (ValueError,))

    def test_each_refusal_stands_straight_under_kin_error(self):
        for refusal in PLACED + PLAIN:
            with self.subTest(refusal=refusal.__name__):
                self.assertEqual(refusal.__bases__, (KinError,))

    def test_names_are_the_classes_own(self):
        for name in ("KinError", "NoWeb", "NoStep", "NoOrder", "NoText", "NoName", "NoLine"):
            self.assertEqual(getattr(errors, name).__name__, name)

    def test_place_is_set_when_the_error_is_made(self):
        for refusal in PLACED:
            for place in (0, 1, 8, 300):
                with self.subTest(refusal=refusal.__name__, place=place):
                    self.assertEqual(refusal(place).place, place)

    def test_each_object_has_its_own_place(self):
        first = NoWeb(3)
        second = NoWeb(5)
        self.assertEqual((first.place, second.place), (3, 5))

    def test_place_is_there_when_it_is_taken_as_any_refusal(self):
        for refusal in PLACED:
            with self.assertRaises(KinError) as taken:
                raise refusal(4)
            self.assertEqual(taken.exception.place, 4)

    def test_the_others_are_made_with_words(self):
        for refusal in PLAIN:
            with self.assertRaises(KinError) as taken:
                raise refusal("words")
            self.assertEqual(str(taken.exception), "words")
