"""The refusals: points 2, 6 and 7, and the interface of facesparted/errors.py."""

import unittest

from facesparted.errors import FaceError, NoAsk, NoCorner, NoParting, NoSet

REFUSALS = (NoParting, NoAsk, NoSet, NoCorner)


class ErrorsTest(unittest.TestCase):
    def test_each_is_a_face_error_and_a_value_error(self):
        self.assertTrue(issubclass(FaceError, ValueError))
        for refusal in REFUSALS:
            made = refusal("0")
            self.assertIsInstance(made, FaceError)
            self.assertIsInstance(made, ValueError)

    def test_none_stands_under_another(self):
        for refusal in REFUSALS:
            for other in REFUSALS:
                self.assertEqual(issubclass(refusal, other), refusal is other)
            self.assertFalse(issubclass(FaceError, refusal))

    def test_no_parting_and_no_ask_tell_their_text(self):
        for refusal in (NoParting, NoAsk):
            for text in ("", "a word", "two\nlines"):
                self.assertEqual(str(refusal(text)), text)

    def test_no_set_keeps_its_place(self):
        for place in (0, 1, 3, 700):
            made = NoSet(place)
            self.assertEqual(made.place, place)
            self.assertIs(type(made.place), int)

    def test_no_corner_keeps_its_corner(self):
        for corner in ("", "0", "010", "no corner", "a\nb"):
            self.assertEqual(NoCorner(corner).corner, corner)

    def test_those_made_by_hand_do_not_share(self):
        first, second = NoSet(4), NoSet(5)
        self.assertEqual((first.place, second.place), (4, 5))
        first, second = NoCorner("0"), NoCorner("1")
        self.assertEqual((first.corner, second.corner), ("0", "1"))

    def test_they_are_caught_as_any_refusal(self):
        for refusal in REFUSALS:
            with self.assertRaises(FaceError) as caught:
                raise refusal("01")
            self.assertIs(type(caught.exception), refusal)


if __name__ == "__main__":
    unittest.main()
