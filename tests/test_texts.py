"""Corners, faces and sets as texts: points 4, 5 and 6."""

import unittest

from facesparted.errors import FaceError, NoAsk, NoCorner, NoParting, NoSet
from facesparted.faces.texts import (
    common_face,
    corners_of,
    has_all,
    how_many,
    joined,
    read_set,
    set_shown,
)
from plain import all_corners, all_faces, all_sets, corners_in, face_of


class FaceTest(unittest.TestCase):
    """Point 4."""

    def test_corners_of_some_faces(self):
        self.assertEqual(corners_of("0"), ("0",))
        self.assertEqual(corners_of("*"), ("0", "1"))
        self.assertEqual(corners_of("1*0"), ("100", "110"))
        self.assertEqual(corners_of("*1*"), ("010", "011", "110", "111"))
        self.assertEqual(corners_of("010110"), ("010110",))
        self.assertEqual(corners_of("0*01*1"), ("000101", "000111", "010101", "010111"))

    def test_how_many_of_some_faces(self):
        for face, many in (("1", 1), ("*", 2), ("0*", 2), ("**", 4), ("010110", 1), ("***0**", 32), ("******", 64)):
            self.assertEqual(how_many(face), many)
            self.assertIs(type(how_many(face)), int)

    def test_every_face_of_one_to_six_bits(self):
        for bits in range(1, 7):
            for face in all_faces(bits):
                corners = corners_of(face)
                self.assertIs(type(corners), tuple)
                self.assertEqual(corners, corners_in(face))
                self.assertEqual(how_many(face), len(corners))

    def test_all_corners_of_the_whole_cube(self):
        for bits in range(1, 7):
            self.assertEqual(corners_of("*" * bits), tuple(all_corners(bits)))


class TwoFacesTest(unittest.TestCase):
    """Point 5."""

    def test_faces_that_meet(self):
        self.assertEqual(common_face("0*", "*1"), "01")
        self.assertEqual(common_face("*1", "0*"), "01")
        self.assertEqual(common_face("**", "1*"), "1*")
        self.assertEqual(common_face("0*1***", "*11*0*"), "011*0*")
        self.assertEqual(common_face("*", "*"), "*")
        self.assertEqual(common_face("010110", "010110"), "010110")

    def test_faces_that_do_not_meet(self):
        self.assertIsNone(common_face("0", "1"))
        self.assertIsNone(common_face("1*", "0*"))
        self.assertIsNone(common_face("*0*", "*1*"))
        self.assertIsNone(common_face("*****0", "*****1"))

    def test_has_all(self):
        self.assertIs(has_all("0*", "01"), True)
        self.assertIs(has_all("01", "0*"), False)
        self.assertIs(has_all("0*", "0*"), True)
        self.assertIs(has_all("0*", "*0"), False)
        self.assertIs(has_all("0*", "11"), False)
        self.assertIs(has_all("******", "01*0*1"), True)
        self.assertIs(has_all("01*0*1", "******"), False)

    def test_faces_that_make_one(self):
        self.assertEqual(joined("0", "1"), "*")
        self.assertEqual(joined("1", "0"), "*")
        self.assertEqual(joined("0*1", "1*1"), "**1")
        self.assertEqual(joined("*****1", "*****0"), "******")
        self.assertEqual(joined("010110", "010010"), "010*10")

    def test_faces_that_make_none(self):
        for one, other in (
            ("00", "11"), ("0*", "00"), ("00", "0*"), ("00", "00"), ("**", "**"), ("0*", "10"),
            ("0*", "*1"), ("0*1", "1*0"), ("000000", "000011"), ("*00", "*11"), ("*0", "1*"),
        ):
            self.assertIsNone(joined(one, other), (one, other))

    def check_pair(self, one, other):
        first, second = set(corners_in(one)), set(corners_in(other))
        common = common_face(one, other)
        if first & second:
            self.assertEqual(set(corners_in(common)), first & second)
            self.assertEqual(len(common), len(one))
            self.assertIsNone(joined(one, other))
        else:
            self.assertIsNone(common)
            self.assertEqual(joined(one, other), face_of(first | second, len(one)))
        self.assertIs(has_all(one, other), second <= first)

    def test_all_pairs_of_up_to_three_bits(self):
        for bits in (1, 2, 3):
            for one in all_faces(bits):
                for other in all_faces(bits):
                    self.check_pair(one, other)

    def test_pairs_of_four_to_six_bits(self):
        for bits, step in ((4, 5), (5, 17), (6, 41)):
            for one in all_faces(bits)[::step]:
                for other in all_faces(bits)[::step - 1]:
                    self.check_pair(one, other)

    def test_halves_of_every_face_of_four_to_six_bits(self):
        for bits in (4, 5, 6):
            for face in all_faces(bits):
                for at, sign in enumerate(face):
                    if sign == "*":
                        low, high = face[:at] + "0" + face[at + 1:], face[:at] + "1" + face[at + 1:]
                        self.assertEqual(joined(low, high), face)
                        self.assertEqual(joined(high, low), face)
                        self.assertIsNone(common_face(low, high))
                        self.assertEqual(common_face(face, low), low)
                        self.assertIs(has_all(face, high), True)
                        self.assertIs(has_all(high, face), False)


class SetTest(unittest.TestCase):
    """Point 6."""

    def refused(self, text):
        with self.assertRaises(NoSet) as caught:
            read_set(text)
        told = caught.exception
        self.assertIsInstance(told, FaceError)
        self.assertIsInstance(told, ValueError)
        self.assertNotIsInstance(told, (NoParting, NoAsk, NoCorner))
        self.assertIs(type(told.place), int)
        return told.place

    def test_some_sets(self):
        self.assertEqual(read_set("01"), (1, ("1",)))
        self.assertEqual(read_set("1101"), (2, ("00", "01", "11")))
        self.assertEqual(read_set("00010000"), (3, ("011",)))
        self.assertEqual(set_shown((1, ("1",))), "01")
        self.assertEqual(set_shown((2, ("00", "01", "11"))), "1101")
        self.assertEqual(set_shown((3, ("011",))), "00010000")

    def test_no_corners_all_corners_one_corner(self):
        for bits in range(1, 7):
            whole = all_corners(bits)
            many = len(whole)
            self.assertEqual(read_set("0" * many), (bits, ()))
            self.assertEqual(set_shown((bits, ())), "0" * many)
            self.assertEqual(read_set("1" * many), (bits, tuple(whole)))
            self.assertEqual(set_shown((bits, tuple(whole))), "1" * many)
            for at, corner in enumerate(whole):
                text = "0" * at + "1" + "0" * (many - at - 1)
                self.assertEqual(read_set(text), (bits, (corner,)))
                self.assertEqual(set_shown((bits, (corner,))), text)

    def test_every_set_of_up_to_three_bits(self):
        for bits in (1, 2, 3):
            for some in all_sets(bits):
                text = "".join("1" if corner in some[1] else "0" for corner in all_corners(bits))
                self.assertEqual(set_shown(some), text)
                self.assertEqual(read_set(text), some)

    def test_what_is_read_is_a_pair_of_tuples(self):
        some = read_set("0110")
        self.assertIs(type(some), tuple)
        self.assertIs(type(some[0]), int)
        self.assertIs(type(some[1]), tuple)

    def test_lengths_that_are_none(self):
        for length in (0, 1, 3, 5, 6, 7, 9, 12, 31, 33, 63, 65, 100, 127, 128, 129, 256, 512, 700):
            self.assertEqual(self.refused("1" * length), length)
            self.assertEqual(self.refused("0" * length), length)

    def test_lengths_that_are_some(self):
        for bits, length in ((1, 2), (2, 4), (3, 8), (4, 16), (5, 32), (6, 64)):
            self.assertEqual(read_set("1" * length)[0], bits)

    def test_the_first_wrong_sign(self):
        for text, place in (
            ("*", 0), ("0*", 1), ("2011", 0), ("01 1", 2), ("0111\n", 4), ("\n01", 0), ("01-1", 2), ("01ab", 2),
            ("0" * 63 + "~", 63), ("1" * 64 + " ", 64), (" ", 0), ("0\n", 1), ("+1", 0), ("1_1", 1), ("~" * 700, 0),
        ):
            self.assertEqual(self.refused(text), place, text)

    def test_each_other_sign_is_wrong(self):
        for sign in [chr(number) for number in range(32, 127)] + ["\n"]:
            if sign not in "01":
                self.assertEqual(self.refused("010" + sign), 3)

    def test_a_wrong_sign_goes_ahead_of_the_length(self):
        self.assertEqual(self.refused("01x"), 2)
        self.assertEqual(self.refused("1" * 100 + "x"), 100)
        self.assertEqual(self.refused("1" * 100 + "x" + "1" * 100 + "y"), 100)
        self.assertEqual(self.refused("x"), 0)


class AgainTest(unittest.TestCase):
    """Point 2: the same asked again is answered the same."""

    def test_again(self):
        for face in ("0", "*1*", "******"):
            self.assertEqual(corners_of(face), corners_of(face))
            self.assertEqual(how_many(face), how_many(face))
        for one, other in (("0*", "*1"), ("0*", "1*"), ("00", "11")):
            for ask in (common_face, has_all, joined):
                self.assertEqual(ask(one, other), ask(one, other))
        first = read_set("0110")
        with self.assertRaises(NoSet) as before:
            read_set("012")
        with self.assertRaises(NoSet) as after:
            read_set("012")
        self.assertEqual(before.exception.place, after.exception.place)
        self.assertEqual(read_set("0110"), first)
        self.assertEqual(set_shown(first), set_shown(first))


if __name__ == "__main__":
    unittest.main()
