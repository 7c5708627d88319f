"""Odd counts, and what they show: points 12 and 13."""

import unittest

from facesparted.faces.partings import sizes_of
from facesparted.faces.texts import how_many, read_set
from facesparted.least.onesize import count_of_size
from facesparted.shown.odd import least_single, odd_counts, shows_none
from plain import (
    HALF_SET,
    NOTHING,
    WHOLE,
    all_corners,
    all_faces,
    all_sets,
    corners_in,
    partings_of,
    some_sets,
)

# No two of these corners make a face, and no count of theirs is anything but 0 or 4.
EVENS = (3, ("000", "011", "101", "110"))


def slow_counts(some):
    """Each choice is read as a corner: the bits that are 1 in it are chosen."""
    told = []
    for choice in all_corners(some[0]):
        ones = [sum(bit == "1" for bit, chosen in zip(corner, choice) if chosen == "1") for corner in some[1]]
        even = sum(many in (0, 2, 4, 6) for many in ones)
        odd = sum(many in (1, 3, 5) for many in ones)
        told.append(even - odd)
    return tuple(told)


def slow_choice(some, stars):
    size = 1
    for _ in range(stars):
        size = size + size
    wrong = [choice for choice, many in enumerate(slow_counts(some)) if abs(many) % size]
    return wrong[0] if wrong else None


def sets_to_six_bits():
    for bits in (1, 2):
        yield from all_sets(bits)
    yield from some_sets(3, 3)
    yield from some_sets(4, 977)
    yield from some_sets(5, 2 ** 32 // 37)
    yield from some_sets(6, 2 ** 64 // 31)


class OddCountsTest(unittest.TestCase):
    """Point 12."""

    def test_some(self):
        self.assertEqual(odd_counts((1, ("0",))), (1, 1))
        self.assertEqual(odd_counts((1, ("1",))), (1, -1))
        self.assertEqual(odd_counts(WHOLE[1]), (2, 0))
        self.assertEqual(odd_counts(HALF_SET), (3, -1, 1, 1))
        self.assertEqual(odd_counts(EVENS), (4, 0, 0, 0, 0, 0, 0, 4))

    def test_the_second_bit_is_chosen_ahead_of_the_first(self):
        self.assertEqual(odd_counts((2, ("01",))), (1, -1, 1, -1))
        self.assertEqual(odd_counts((2, ("10",))), (1, 1, -1, -1))
        self.assertEqual(odd_counts((3, ("001",))), (1, -1, 1, -1, 1, -1, 1, -1))
        self.assertEqual(odd_counts((3, ("100",))), (1, 1, 1, 1, -1, -1, -1, -1))

    def test_no_corners_and_all_corners(self):
        for bits in range(1, 7):
            self.assertEqual(odd_counts(NOTHING[bits]), (0,) * 2 ** bits)
            self.assertEqual(odd_counts(WHOLE[bits]), (2 ** bits,) + (0,) * (2 ** bits - 1))

    def test_no_bits_chosen_and_all_bits_chosen(self):
        for some in sets_to_six_bits():
            told = odd_counts(some)
            self.assertEqual(told[0], len(some[1]))
            self.assertEqual(told[-1], sum(-1 if corner.count("1") % 2 else 1 for corner in some[1]))

    def test_one_corner(self):
        for bits in range(1, 7):
            for corner in all_corners(bits):
                self.assertEqual(odd_counts((bits, (corner,))), slow_counts((bits, (corner,))))

    def test_sets_of_up_to_six_bits(self):
        for some in sets_to_six_bits():
            told = odd_counts(some)
            self.assertEqual(told, slow_counts(some))
            self.assertIs(type(told), tuple)
            self.assertEqual(len(told), 2 ** some[0])
            self.assertTrue(all(type(many) is int for many in told))

    def test_every_set_of_three_bits(self):
        for some in all_sets(3):
            self.assertEqual(odd_counts(some), slow_counts(some))

    def test_of_a_face(self):
        for bits in range(1, 7):
            for face in all_faces(bits)[::1 if bits < 5 else 7]:
                told = odd_counts((bits, corners_in(face)))
                for choice, many in zip(all_corners(bits), told):
                    chosen = [sign for sign, bit in zip(face, choice) if bit == "1"]
                    if "*" in chosen:
                        self.assertEqual(many, 0)
                    else:
                        self.assertEqual(many, how_many(face) * (-1) ** chosen.count("1"))


class ShowsNoneTest(unittest.TestCase):
    """Point 13: choices that show that there is no parting."""

    def test_some(self):
        self.assertEqual(shows_none(HALF_SET, 1), 0)
        self.assertEqual(shows_none((2, ("00", "11")), 2), 0)
        self.assertEqual(shows_none((3, ("000", "001", "010", "100")), 2), 1)
        self.assertEqual(shows_none((3, ("000", "001", "010", "111")), 2), 4)
        self.assertEqual(shows_none((3, ("000", "001", "110", "111")), 2), None)
        self.assertEqual(shows_none(EVENS, 2), None)
        self.assertEqual(shows_none(EVENS, 3), 0)

    def test_no_corners(self):
        for bits in range(1, 7):
            for stars in range(101):
                self.assertIsNone(shows_none(NOTHING[bits], stars))

    def test_no_stars(self):
        for some in sets_to_six_bits():
            self.assertIsNone(shows_none(some, 0))

    def test_all_corners(self):
        for bits in range(1, 7):
            for stars in range(101):
                self.assertEqual(shows_none(WHOLE[bits], stars), None if stars <= bits else 0)

    def test_one_corner(self):
        for bits in range(1, 7):
            for corner in all_corners(bits):
                for stars in (1, bits, bits + 1, 100):
                    self.assertEqual(shows_none((bits, (corner,)), stars), 0)

    def test_sets_of_up_to_six_bits(self):
        for some in sets_to_six_bits():
            for stars in (*range(some[0] + 2), 32, 63, 64, 99, 100):
                told = shows_none(some, stars)
                self.assertEqual(told, slow_choice(some, stars), (some, stars))
                self.assertIn(type(told), (int, type(None)))

    def test_where_one_is_shown_there_is_none(self):
        for some in all_sets(3):
            for stars in range(5):
                if shows_none(some, stars) is not None:
                    self.assertEqual(count_of_size(some, stars), 0)

    def test_where_none_is_shown_though_there_is_no_parting(self):
        for some, stars in ((EVENS, 1), (EVENS, 2), ((2, ("00", "11")), 1)):
            self.assertIsNone(shows_none(some, stars))
            self.assertEqual(count_of_size(some, stars), 0)

    def test_where_a_later_choice_is_shown(self):
        told = {shows_none(some, stars) for some in all_sets(3) for stars in (1, 2, 3)}
        self.assertEqual(told, {slow_choice(some, stars) for some in all_sets(3) for stars in (1, 2, 3)})
        self.assertGreater(len(told), 4)


class LeastSingleTest(unittest.TestCase):
    """Point 13: the bound from below."""

    def test_some(self):
        self.assertEqual(least_single(HALF_SET), 1)
        self.assertEqual(least_single(EVENS), 4)
        self.assertEqual(least_single((3, ("001", "010", "100", "111"))), 4)
        self.assertEqual(least_single(read_set("01")), 1)
        self.assertEqual(least_single(read_set("10")), 1)

    def test_no_corners_and_all_corners(self):
        for bits in range(1, 7):
            self.assertEqual(least_single(NOTHING[bits]), 0)
            self.assertEqual(least_single(WHOLE[bits]), 0)

    def test_one_corner(self):
        for bits in range(1, 7):
            for corner in all_corners(bits):
                self.assertEqual(least_single((bits, (corner,))), 1)

    def test_the_amount_for_all_bits(self):
        for some in sets_to_six_bits():
            told = least_single(some)
            self.assertEqual(told, abs(slow_counts(some)[-1]))
            self.assertIs(type(told), int)

    def test_corners_of_one_colour(self):
        for bits in range(1, 7):
            for odd in (0, 1):
                corners = tuple(corner for corner in all_corners(bits) if corner.count("1") % 2 == odd)
                self.assertEqual(least_single((bits, corners)), len(corners))

    def test_it_is_a_bound(self):
        for some in all_sets(3):
            for faces in partings_of(some):
                self.assertGreaterEqual(sizes_of(some, faces)[0], least_single(some))


class AgainTest(unittest.TestCase):
    """Point 2."""

    def test_again_and_behind_others(self):
        sets = [HALF_SET, EVENS, NOTHING[6], WHOLE[6]]
        first = [(odd_counts(some), shows_none(some, 2), shows_none(some, 100), least_single(some)) for some in sets]
        again = [
            (odd_counts(some), shows_none(some, 2), shows_none(some, 100), least_single(some))
            for some in reversed(sets)
        ]
        self.assertEqual(again, first[::-1])


if __name__ == "__main__":
    unittest.main()
