"""Covers: point 15."""

import unittest
from itertools import combinations

from facesparted.faces.texts import read_set
from facesparted.least.covers import fewest_cover, greatest_faces
from facesparted.least.fewest import fewest_faces
from plain import (
    HALF_SET,
    NOTHING,
    WHOLE,
    all_corners,
    all_faces,
    all_sets,
    corners_in,
    in_order,
    place_of,
    some_sets,
)

SIX = (3, ("000", "001", "011", "100", "110", "111"))
ALL_BUT_TWO = read_set("0111111111111110")
EVENS = (4, ("0000", "0011", "0101", "0110", "1001", "1010", "1100", "1111"))


def faces_within(some):
    bits, corners = some
    return [face for face in all_faces(bits) if set(corners_in(face)) <= set(corners)]


def is_cover(some, faces):
    return {corner for face in faces for corner in corners_in(face)} == set(some[1])


def covers_of(some):
    """All covers without a face twice, in order of faces: each row of faces that lie in the set is looked at."""
    faces = faces_within(some)
    rows = [row for many in range(len(faces) + 1) for row in combinations(faces, many)]
    return [row for row in rows if is_cover(some, row)]


def slow_pair(covers):
    fewest = min(len(cover) for cover in covers)
    least = [cover for cover in covers if len(cover) == fewest]
    return fewest, min(least, key=lambda cover: [place_of(face) for face in cover])


def slow_cover(some):
    """Rows of one face, of two and so on, each kind in order, till one is a cover."""
    faces = [(face, set(corners_in(face))) for face in faces_within(some)]

    def first_row(many, left, start):
        if not left:
            return ()
        # The greatest face that is still to come may be too small for what is left.
        most = max([len(own) for _, own in faces[start:]], default=0)
        if many * most < len(left):
            return None
        for at in range(start, len(faces)):
            face, own = faces[at]
            more = first_row(many - 1, left - own, at + 1)
            if more is not None:
                return (face,) + more
        return None

    for many in range(len(some[1]) + 1):
        row = first_row(many, set(some[1]), 0)
        if row is not None:
            return many, row


def slow_greatest(some):
    faces = faces_within(some)
    return tuple(
        face for face in faces if not any(set(corners_in(face)) < set(corners_in(other)) for other in faces)
    )


class CoverTest(unittest.TestCase):
    """Point 15: the fewest cover."""

    def check(self, some, pair):
        told = fewest_cover(some)
        self.assertEqual(told, pair, some)
        self.assertIs(type(told), tuple)
        self.assertIs(type(told[0]), int)
        self.assertIs(type(told[1]), tuple)

    def test_some(self):
        self.assertEqual(fewest_cover(HALF_SET), (2, ("00", "*1")))
        self.assertEqual(fewest_cover((2, ("00", "11"))), (2, ("00", "11")))
        self.assertEqual(fewest_cover(SIX), (3, ("00*", "1*0", "*11")))
        self.assertEqual(fewest_cover((3, ("011", "101", "110", "111"))), (3, ("011", "101", "11*")))

    def test_faces_that_meet(self):
        # No parting has so few.
        self.check(ALL_BUT_TWO, (4, ("01**", "1*0*", "*0*1", "**10")))
        self.check(ALL_BUT_TWO, slow_cover(ALL_BUT_TWO))
        self.assertEqual(fewest_faces(ALL_BUT_TWO)[0], 5)
        self.assertEqual(fewest_cover(read_set("0111111111111111")), (4, ("0001", "001*", "01**", "1***")))

    def test_the_first_is_not_of_greatest_faces(self):
        # 0* and *1 are the greatest ones, but 00 is ahead of 0*.
        self.assertEqual(fewest_cover(HALF_SET)[1], ("00", "*1"))
        self.assertEqual(fewest_cover((2, ("00", "01", "10"))), (2, ("01", "*0")))
        self.assertEqual(fewest_cover((1, ("0", "1"))), (1, ("*",)))

    def test_no_corners(self):
        for bits in range(1, 5):
            self.assertEqual(fewest_cover(NOTHING[bits]), (0, ()))

    def test_all_corners(self):
        for bits in range(1, 5):
            self.assertEqual(fewest_cover(WHOLE[bits]), (1, ("*" * bits,)))

    def test_one_corner(self):
        for bits in range(1, 5):
            for corner in all_corners(bits):
                self.assertEqual(fewest_cover((bits, (corner,))), (1, (corner,)))

    def test_the_corners_of_one_face(self):
        for bits in range(1, 5):
            for face in all_faces(bits):
                self.assertEqual(fewest_cover((bits, corners_in(face))), (1, (face,)))

    def test_no_two_corners_in_a_face(self):
        self.assertEqual(fewest_cover(EVENS), (8, EVENS[1]))

    def test_all_covers_of_up_to_two_bits(self):
        for bits in (1, 2):
            for some in all_sets(bits):
                self.check(some, slow_pair(covers_of(some)))

    def test_all_covers_of_sets_of_three_bits(self):
        gone_through = 0
        for some in all_sets(3):
            if len(faces_within(some)) <= 10:
                self.check(some, slow_pair(covers_of(some)))
                gone_through += 1
        self.assertGreater(gone_through, 150)

    def test_every_set_of_up_to_three_bits(self):
        for bits in (1, 2, 3):
            for some in all_sets(bits):
                self.check(some, slow_cover(some))

    def test_sets_of_four_bits(self):
        for some in some_sets(4, 397):
            self.check(some, slow_cover(some))

    def test_the_first_is_a_cover(self):
        for some in some_sets(4, 53):
            fewest, cover = fewest_cover(some)
            self.assertEqual(len(cover), fewest)
            self.assertEqual(cover, in_order(set(cover)))
            self.assertTrue(is_cover(some, cover), some)


class GreatestTest(unittest.TestCase):
    """Point 15: all greatest faces."""

    def check(self, some):
        told = greatest_faces(some)
        self.assertEqual(told, slow_greatest(some), some)
        self.assertIs(type(told), tuple)

    def test_some(self):
        self.assertEqual(greatest_faces(HALF_SET), ("0*", "*1"))
        self.assertEqual(greatest_faces((2, ("00", "11"))), ("00", "11"))
        self.assertEqual(greatest_faces(SIX), ("00*", "0*1", "11*", "1*0", "*00", "*11"))
        self.assertEqual(greatest_faces((3, ("000", "001", "010", "011", "111"))), ("0**", "*11"))

    def test_some_of_no_fewest_cover(self):
        told = greatest_faces(ALL_BUT_TWO)
        self.assertEqual(len(told), 12)
        self.assertEqual(told[:3], ("01**", "0*1*", "0**1"))
        self.assertEqual(told[-3:], ("*1*0", "**01", "**10"))

    def test_no_corners(self):
        for bits in range(1, 5):
            self.assertEqual(greatest_faces(NOTHING[bits]), ())

    def test_all_corners(self):
        for bits in range(1, 5):
            self.assertEqual(greatest_faces(WHOLE[bits]), ("*" * bits,))

    def test_one_corner(self):
        for bits in range(1, 5):
            for corner in all_corners(bits):
                self.assertEqual(greatest_faces((bits, (corner,))), (corner,))

    def test_the_corners_of_one_face(self):
        for bits in range(1, 5):
            for face in all_faces(bits):
                self.assertEqual(greatest_faces((bits, corners_in(face))), (face,))

    def test_no_two_corners_in_a_face(self):
        self.assertEqual(greatest_faces(EVENS), EVENS[1])

    def test_every_set_of_up_to_three_bits(self):
        for bits in (1, 2, 3):
            for some in all_sets(bits):
                self.check(some)

    def test_sets_of_four_bits(self):
        for some in some_sets(4, 211):
            self.check(some)


class AgainTest(unittest.TestCase):
    """Point 2: the same asked again is answered the same, also behind others."""

    def test_again_and_behind_others(self):
        sets = [HALF_SET, NOTHING[4], WHOLE[4], SIX, ALL_BUT_TWO, EVENS, NOTHING[1]]
        first = [(fewest_cover(some), greatest_faces(some)) for some in sets]
        again = [(fewest_cover(some), greatest_faces(some)) for some in reversed(sets)]
        self.assertEqual(again, first[::-1])

    def test_of_a_set_that_was_read(self):
        for some in all_sets(2):
            row = "".join("1" if corner in some[1] else "0" for corner in all_corners(2))
            self.assertEqual(fewest_cover(read_set(row)), fewest_cover(some))


if __name__ == "__main__":
    unittest.main()
