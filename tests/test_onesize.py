"""Partings into faces of one size: point 11."""

import unittest

from facesparted.faces.partings import is_parting
from facesparted.faces.texts import read_set
from facesparted.least.fewest import fewest_faces
from facesparted.least.onesize import count_of_size, parting_of_size
from plain import (
    HALF_SET,
    NOTHING,
    WHOLE,
    all_corners,
    all_faces,
    all_sets,
    corners_in,
    first_of,
    partings_of,
    partings_of_whole,
    some_sets,
)

RING = (3, ("001", "010", "011", "100", "101", "110"))


class OneSizeTest(unittest.TestCase):
    """Point 11."""

    def check(self, some, rows):
        for stars in (*range(some[0] + 2), 100):
            right = [faces for faces in rows if all(face.count("*") == stars for face in faces)]
            told, many = parting_of_size(some, stars), count_of_size(some, stars)
            self.assertEqual(many, len(right), (some, stars))
            self.assertIs(type(many), int)
            if right:
                self.assertEqual(told, first_of(right), (some, stars))
                self.assertIs(type(told), tuple)
            else:
                self.assertIsNone(told)

    def test_some(self):
        self.assertEqual(parting_of_size(RING, 1), ("01*", "1*0", "*01"))
        self.assertEqual(count_of_size(RING, 1), 2)
        self.assertEqual(parting_of_size(WHOLE[2], 1), ("0*", "1*"))
        self.assertEqual(count_of_size(WHOLE[2], 1), 2)
        self.assertEqual(parting_of_size(WHOLE[3], 1), ("00*", "01*", "10*", "11*"))
        self.assertEqual(count_of_size(WHOLE[3], 1), 9)
        self.assertEqual(parting_of_size((2, ("01", "10", "11")), 0), ("01", "10", "11"))
        self.assertEqual(parting_of_size(read_set("0110111101101111"), 2), None)

    def test_no_parting_of_the_size(self):
        for some, stars in (
            (HALF_SET, 1), (HALF_SET, 2), ((2, ("00", "11")), 1), ((3, ("000", "011", "101", "110")), 1),
            ((3, ("000", "001", "011", "111")), 2), (WHOLE[4], 5), (RING, 2),
        ):
            self.assertIsNone(parting_of_size(some, stars))
            self.assertEqual(count_of_size(some, stars), 0)

    def test_no_corners_by_any_number_of_stars(self):
        for bits in range(1, 5):
            for stars in range(101):
                self.assertEqual(parting_of_size(NOTHING[bits], stars), ())
                self.assertEqual(count_of_size(NOTHING[bits], stars), 1)

    def test_no_stars(self):
        for bits in range(1, 5):
            for some in some_sets(bits, 2 if bits < 4 else 977):
                self.assertEqual(parting_of_size(some, 0), some[1])
                self.assertEqual(count_of_size(some, 0), 1)

    def test_as_many_stars_as_bits_and_more(self):
        for bits in range(1, 5):
            self.assertEqual(parting_of_size(WHOLE[bits], bits), ("*" * bits,))
            self.assertEqual(count_of_size(WHOLE[bits], bits), 1)
            less = (bits, WHOLE[bits][1][1:])
            for some, stars in ((less, bits), (WHOLE[bits], bits + 1), (less, bits + 1), (WHOLE[bits], 100)):
                self.assertIsNone(parting_of_size(some, stars))
                self.assertEqual(count_of_size(some, stars), 0)

    def test_many_stars(self):
        for stars in range(5, 101):
            self.assertIsNone(parting_of_size(WHOLE[4], stars))
            self.assertEqual(count_of_size(WHOLE[4], stars), 0)

    def test_one_corner(self):
        for bits in range(1, 5):
            for corner in all_corners(bits):
                self.assertEqual(parting_of_size((bits, (corner,)), 0), (corner,))
                self.assertIsNone(parting_of_size((bits, (corner,)), 1))
                self.assertEqual(count_of_size((bits, (corner,)), 1), 0)

    def test_the_corners_of_one_face(self):
        for bits in range(1, 5):
            for face in all_faces(bits):
                some, stars = (bits, corners_in(face)), face.count("*")
                self.assertEqual(parting_of_size(some, stars), (face,))
                self.assertEqual(count_of_size(some, stars), 1)

    def test_every_set_of_up_to_three_bits(self):
        for bits in (1, 2, 3):
            for some in all_sets(bits):
                self.check(some, partings_of(some))

    def test_sets_of_four_bits(self):
        for some in some_sets(4, 719):
            if some != WHOLE[4]:
                self.check(some, partings_of(some))

    def test_sets_made_of_some_faces_of_one_size(self):
        for faces in (("00**", "11**"), ("0*0*", "1*1*"), ("000*", "1*11", "0*10"), ("0***",), ("*0*1", "*1*0")):
            some = (4, tuple(sorted(corner for face in faces for corner in corners_in(face))))
            self.check(some, partings_of(some))

    def test_the_whole_cube_of_four_bits(self):
        self.check(WHOLE[4], partings_of_whole(4))
        self.assertEqual([count_of_size(WHOLE[4], stars) for stars in range(6)], [1, 272, 30, 4, 1, 0])

    def test_what_is_told_is_a_parting(self):
        for some in some_sets(4, 211):
            for stars in range(6):
                faces = parting_of_size(some, stars)
                self.assertEqual(faces is None, count_of_size(some, stars) == 0)
                if faces is not None:
                    self.assertIs(is_parting(some, faces), True)

    def test_again_and_behind_others(self):
        asked = [(some, stars) for some in (HALF_SET, WHOLE[4], NOTHING[3], RING) for stars in (0, 1, 2, 4, 100)]
        first = [(parting_of_size(*each), count_of_size(*each)) for each in asked]
        fewest_faces(WHOLE[4])
        again = [(parting_of_size(*each), count_of_size(*each)) for each in reversed(asked)]
        self.assertEqual(again, first[::-1])


if __name__ == "__main__":
    unittest.main()
