"""The fewest faces, counts by faces and all partings: points 9 and 10."""

import unittest
from itertools import combinations

from facesparted.errors import NoParting
from facesparted.faces.partings import is_parting, sizes_of
from facesparted.faces.texts import read_set
from facesparted.least.fewest import all_partings, counts_by_faces, fewest_faces
from plain import (
    HALF_SET,
    NOTHING,
    WHOLE,
    all_corners,
    all_faces,
    all_sets,
    corners_in,
    first_of,
    partings_of,
    partings_of_whole,
    place_of,
    some_sets,
)

SINGLES = (4, ("0000", "0011", "0101", "0110", "1001", "1010", "1100", "1111"))


def slow_triple(rows):
    fewest = min(len(faces) for faces in rows)
    least = [faces for faces in rows if len(faces) == fewest]
    return fewest, len(least), first_of(least)


def slow_counts(some, rows):
    many = [len(faces) for faces in rows]
    return tuple(many.count(faces) for faces in range(len(some[1]) + 1))


class FewestTest(unittest.TestCase):
    """Point 9."""

    def check(self, some, rows):
        told = fewest_faces(some)
        self.assertEqual(told, slow_triple(rows), some)
        self.assertIs(type(told), tuple)
        self.assertIs(type(told[0]), int)
        self.assertIs(type(told[1]), int)
        self.assertIs(type(told[2]), tuple)

    def test_some(self):
        self.assertEqual(fewest_faces(HALF_SET), (2, 2, ("00", "*1")))
        self.assertEqual(fewest_faces((2, ("00", "11"))), (2, 1, ("00", "11")))
        self.assertEqual(fewest_faces((3, ("000", "001", "011", "100", "110", "111"))), (3, 2, ("00*", "1*0", "*11")))
        self.assertEqual(fewest_faces(read_set("0111111111111111")), (4, 24, ("0001", "001*", "01**", "1***")))
        self.assertEqual(fewest_faces(read_set("0111111111111110")), (5, 8, ("0001", "01**", "1110", "1*0*", "*01*")))

    def test_the_first_is_not_by_the_first_corner(self):
        # The last one: *0 has the first corner as 0* has it, and stands behind, but 01 stands ahead of both.
        self.assertEqual(fewest_faces((2, ("00", "01", "11")))[2], ("00", "*1"))
        self.assertEqual(fewest_faces((2, ("00", "10", "11")))[2], ("00", "1*"))
        self.assertEqual(fewest_faces((2, ("01", "10", "11")))[2], ("01", "1*"))
        self.assertEqual(fewest_faces((2, ("00", "01", "10")))[2], ("01", "*0"))

    def test_no_corners(self):
        for bits in range(1, 5):
            self.assertEqual(fewest_faces(NOTHING[bits]), (0, 1, ()))

    def test_all_corners(self):
        for bits in range(1, 5):
            self.assertEqual(fewest_faces(WHOLE[bits]), (1, 1, ("*" * bits,)))

    def test_one_corner(self):
        for bits in range(1, 5):
            for corner in all_corners(bits):
                self.assertEqual(fewest_faces((bits, (corner,))), (1, 1, (corner,)))

    def test_the_corners_of_one_face(self):
        for bits in range(1, 5):
            for face in all_faces(bits):
                self.assertEqual(fewest_faces((bits, corners_in(face))), (1, 1, (face,)))

    def test_as_many_faces_as_corners(self):
        self.assertEqual(fewest_faces(SINGLES), (8, 1, SINGLES[1]))

    def test_every_set_of_up_to_three_bits(self):
        for bits in (1, 2, 3):
            for some in all_sets(bits):
                self.check(some, partings_of(some))

    def test_sets_of_four_bits(self):
        for some in some_sets(4, 719):
            if some != WHOLE[4]:
                self.check(some, partings_of(some))

    def test_the_whole_cube_of_four_bits(self):
        self.check(WHOLE[4], partings_of_whole(4))

    def test_the_first_is_a_parting_of_so_few(self):
        for some in some_sets(4, 211):
            fewest, many, faces = fewest_faces(some)
            self.assertIs(is_parting(some, faces), True, some)
            self.assertEqual(len(faces), fewest)
            self.assertGreaterEqual(many, 1)


class CountsTest(unittest.TestCase):
    """Point 10: counts by faces."""

    def check(self, some, rows):
        told = counts_by_faces(some)
        self.assertEqual(told, slow_counts(some, rows), some)
        self.assertIs(type(told), tuple)
        self.assertTrue(all(type(many) is int for many in told))

    def test_some(self):
        self.assertEqual(counts_by_faces(HALF_SET), (0, 0, 2, 1))
        self.assertEqual(counts_by_faces((2, ("00", "11"))), (0, 0, 1))
        self.assertEqual(counts_by_faces(WHOLE[1]), (0, 1, 1))
        self.assertEqual(counts_by_faces(WHOLE[2]), (0, 1, 2, 4, 1))
        self.assertEqual(counts_by_faces(WHOLE[3]), (0, 1, 3, 12, 33, 50, 42, 12, 1))

    def test_no_corners(self):
        for bits in range(1, 5):
            self.assertEqual(counts_by_faces(NOTHING[bits]), (1,))

    def test_one_corner(self):
        for bits in range(1, 5):
            for corner in all_corners(bits):
                self.assertEqual(counts_by_faces((bits, (corner,))), (0, 1))

    def test_no_two_corners_in_a_face(self):
        self.assertEqual(counts_by_faces(SINGLES), (0,) * 8 + (1,))

    def test_every_set_of_up_to_three_bits(self):
        for bits in (1, 2, 3):
            for some in all_sets(bits):
                self.check(some, partings_of(some))

    def test_sets_of_four_bits(self):
        for some in some_sets(4, 719):
            if some != WHOLE[4]:
                self.check(some, partings_of(some))

    def test_the_whole_cube_of_four_bits(self):
        self.check(WHOLE[4], partings_of_whole(4))
        self.assertEqual(sum(counts_by_faces(WHOLE[4])), 89512)

    def test_it_agrees_with_the_fewest(self):
        for some in some_sets(4, 211):
            told = counts_by_faces(some)
            fewest, many, _ = fewest_faces(some)
            self.assertEqual(len(told), len(some[1]) + 1)
            self.assertEqual(told[:fewest + 1], (0,) * fewest + (many,))
            self.assertEqual(told[-1], 1)


class AllPartingsTest(unittest.TestCase):
    """Point 10: all partings."""

    def test_of_one_bit(self):
        self.assertEqual(all_partings(1), [("0", "1"), ("*",)])

    def test_of_two_bits(self):
        self.assertEqual(all_partings(2), [
            ("00", "01", "10", "11"), ("00", "01", "1*"), ("00", "10", "*1"), ("01", "11", "*0"),
            ("0*", "10", "11"), ("0*", "1*"), ("*0", "*1"), ("**",),
        ])

    def test_of_three_bits(self):
        told = all_partings(3)
        self.assertEqual(len(told), 154)
        self.assertEqual(told[0], WHOLE[3][1])
        self.assertEqual(told[1], ("000", "001", "010", "011", "100", "101", "11*"))
        self.assertEqual(told[-1], ("***",))

    def test_of_two_bits_out_of_all_rows_of_faces(self):
        faces = all_faces(2)
        rows = [row for size in range(len(faces) + 1) for row in combinations(faces, size)]
        self.assertEqual(sorted(all_partings(2)), sorted(row for row in rows if is_parting(WHOLE[2], row)))

    def test_of_one_to_three_bits(self):
        for bits in (1, 2, 3):
            rows = partings_of(WHOLE[bits])
            told = all_partings(bits)
            self.assertEqual(told, sorted(rows, key=lambda faces: [place_of(face) for face in faces]))
            self.assertIs(type(told), list)
            for faces in told:
                self.assertIs(type(faces), tuple)
                self.assertEqual(sum(sizes_of(WHOLE[bits], faces)), len(faces))

    def test_it_agrees_with_the_counts(self):
        for bits in (1, 2, 3):
            self.assertEqual(slow_counts(WHOLE[bits], all_partings(bits)), counts_by_faces(WHOLE[bits]))


class AgainTest(unittest.TestCase):
    """Point 2."""

    def test_a_told_list_is_the_asker_s_own(self):
        for bits in (1, 2, 3):
            kept = tuple(all_partings(bits))
            told = all_partings(bits)
            told.append(("0",))
            told[0] = ()
            told.reverse()
            self.assertEqual(tuple(all_partings(bits)), kept)
            told.clear()
            self.assertEqual(tuple(all_partings(bits)), kept)
        self.assertIsNot(all_partings(2), all_partings(2))

    def test_again_and_behind_others(self):
        sets = [HALF_SET, NOTHING[4], WHOLE[4], SINGLES, WHOLE[3], NOTHING[1]]
        first = [(fewest_faces(some), counts_by_faces(some)) for some in sets]
        all_partings(3)
        with self.assertRaises(NoParting):
            sizes_of(HALF_SET, ())
        again = [(fewest_faces(some), counts_by_faces(some)) for some in reversed(sets)]
        self.assertEqual(again, first[::-1])

    def test_what_is_told_may_be_handed_on(self):
        some = read_set("0110")
        faces = fewest_faces(some)[2]
        self.assertEqual(sizes_of(some, faces), (2, 0, 0))


if __name__ == "__main__":
    unittest.main()
