"""Partings of a set: points 7 and 8."""

import unittest
from itertools import combinations

from facesparted.errors import NoParting
from facesparted.faces.partings import is_finer, is_parting, sizes_of
from plain import (
    HALF_SET,
    NOTHING,
    ODD_TEXTS,
    WHOLE,
    all_corners,
    all_faces,
    all_sets,
    check_refusal,
    corners_in,
    other_orders,
    partings_of,
)


class IsPartingTest(unittest.TestCase):
    """Point 7: the looker."""

    def test_some_partings(self):
        self.assertIs(is_parting(HALF_SET, ("00", "*1")), True)
        self.assertIs(is_parting(HALF_SET, ("0*", "11")), True)
        self.assertIs(is_parting(HALF_SET, ("00", "01", "11")), True)
        self.assertIs(is_parting(WHOLE[3], ("000", "01*", "111", "1*0", "*01")), True)

    def test_what_is_none(self):
        for faces in (
            (), ("**",), ("0*",), ("0*", "*1"), ("00", "01"), ("11", "*1"), ("00", "00", "*1"), ("00", "*1", "*1"),
            ("00", "10", "*1"), ("00", "1*"), ("00", "01", "10"), ("00", "01", "10", "11"),
        ):
            self.assertIs(is_parting(HALF_SET, faces), False, faces)

    def test_out_of_order(self):
        self.assertIs(is_parting(HALF_SET, ("*1", "00")), False)
        self.assertIs(is_parting(HALF_SET, ("11", "0*")), False)
        self.assertIs(is_parting(HALF_SET, ("01", "00", "11")), False)
        self.assertIs(is_parting(HALF_SET, ("00", "11", "01")), False)
        self.assertIs(is_parting(WHOLE[1], ("1", "0")), False)

    def test_of_no_corners_it_has_no_faces(self):
        for bits in range(1, 7):
            self.assertIs(is_parting(NOTHING[bits], ()), True)
            for face in ("0" * bits, "*" * bits, "", "x", "0" * (bits + 1)):
                self.assertIs(is_parting(NOTHING[bits], (face,)), False)

    def test_of_all_corners(self):
        for bits in range(1, 7):
            some = WHOLE[bits]
            self.assertIs(is_parting(some, ("*" * bits,)), True)
            self.assertIs(is_parting(some, some[1]), True)
            self.assertIs(is_parting(some, ("0" + "*" * (bits - 1), "1" + "*" * (bits - 1))), True)
            self.assertIs(is_parting(some, ()), False)
            self.assertIs(is_parting(some, some[1][1:]), False)
            self.assertIs(is_parting(some, ("*" * (bits + 1),)), False)
            self.assertIs(is_parting(some, ("*" * bits, "*" * bits)), False)
            self.assertIs(is_parting(some, some[1] + ("*" * bits,)), False)

    def test_of_one_corner(self):
        for bits in range(1, 7):
            for corner in all_corners(bits):
                self.assertIs(is_parting((bits, (corner,)), (corner,)), True)
                self.assertIs(is_parting((bits, (corner,)), (corner, corner)), False)
                self.assertIs(is_parting((bits, (corner,)), ()), False)
                self.assertIs(is_parting((bits, (corner,)), (corner[1:],)), False)
                self.assertIs(is_parting((bits, (corner,)), ("*" + corner[1:],)), False)

    def test_texts_that_are_no_faces(self):
        for text in ODD_TEXTS:
            for faces in ((text,), (text, text), ("00", text), (text, "*1"), ("00", "*1", text), ("00", text, "*1")):
                self.assertIs(is_parting(HALF_SET, faces), False, faces)
            self.assertIs(is_parting(WHOLE[2], (text,)), False)
            self.assertIs(is_parting(WHOLE[2], ("**", text)), False)

    def test_a_row_of_eighty(self):
        for text in ("", "00", "**", "x" * 700, "******"):
            self.assertIs(is_parting(HALF_SET, (text,) * 80), False)
        self.assertIs(is_parting(WHOLE[6], WHOLE[6][1] + ("******",) * 16), False)

    def test_every_row_of_faces_of_up_to_two_bits(self):
        for bits in (1, 2):
            faces = all_faces(bits)
            for some in all_sets(bits):
                right = set(partings_of(some))
                for size in range(len(faces) + 1):
                    for row in combinations(faces, size):
                        self.assertIs(is_parting(some, row), row in right, (some, row))

    def test_partings_of_three_bits_and_what_is_near_them(self):
        faces = all_faces(3)
        for some in list(all_sets(3))[::9]:
            right = set(partings_of(some))
            for row in right:
                self.assertIs(is_parting(some, row), True, (some, row))
                for at in range(len(row)):
                    self.assertIs(is_parting(some, row[:at] + row[at + 1:]), False)
                for face in faces:
                    more = tuple(sorted(row + (face,), key=faces.index))
                    self.assertIs(is_parting(some, more), False)

    def test_other_orders_are_none(self):
        for some in (HALF_SET, WHOLE[2], (3, corners_in("**1"))):
            for row in partings_of(some):
                for other in other_orders(row):
                    self.assertIs(is_parting(some, other), False)


class SizesTest(unittest.TestCase):
    """Point 7: the numbers of stars."""

    def test_some_sizes(self):
        self.assertEqual(sizes_of(HALF_SET, ("00", "*1")), (1, 1, 0))
        self.assertEqual(sizes_of(HALF_SET, ("00", "01", "11")), (3, 0, 0))
        self.assertEqual(sizes_of(WHOLE[3], ("000", "01*", "111", "1*0", "*01")), (2, 3, 0, 0))
        self.assertEqual(sizes_of(WHOLE[3], ("000", "001", "01*", "1**")), (2, 1, 1, 0))
        self.assertEqual(sizes_of(WHOLE[5], ("0****", "1****")), (0, 0, 0, 0, 2, 0))

    def test_no_star_and_all_stars(self):
        for bits in range(1, 7):
            some = WHOLE[bits]
            self.assertEqual(sizes_of(some, some[1]), (2 ** bits,) + (0,) * bits)
            self.assertEqual(sizes_of(some, ("*" * bits,)), (0,) * bits + (1,))

    def test_of_no_corners(self):
        for bits in range(1, 7):
            told = sizes_of(NOTHING[bits], ())
            self.assertEqual(told, (0,) * (bits + 1))
            self.assertIs(type(told), tuple)

    def test_every_parting_of_up_to_three_bits(self):
        for bits in (1, 2, 3):
            for some in list(all_sets(bits))[::5]:
                for row in partings_of(some):
                    stars = [sum(sign == "*" for sign in face) for face in row]
                    self.assertEqual(sizes_of(some, row), tuple(stars.count(many) for many in range(bits + 1)))

    def test_refused(self):
        for some, faces in (
            (HALF_SET, ()), (HALF_SET, ("**",)), (HALF_SET, ("*1", "00")), (HALF_SET, ("00", "00", "*1")),
            (HALF_SET, ("0*", "*1")), (HALF_SET, ("",)), (HALF_SET, ("00", "1")), (HALF_SET, ("00", "x1")),
            (NOTHING[1], ("0",)), (WHOLE[6], ()), (WHOLE[6], ("*****",)), (WHOLE[6], ("*******",)),
        ):
            with self.assertRaises(NoParting) as caught:
                sizes_of(some, faces)
            check_refusal(self, caught.exception)


class FinerTest(unittest.TestCase):
    """Point 8."""

    def test_some(self):
        singles = ("00", "01", "11")
        self.assertIs(is_finer(HALF_SET, singles, ("00", "*1")), True)
        self.assertIs(is_finer(HALF_SET, ("00", "*1"), singles), False)
        self.assertIs(is_finer(HALF_SET, ("00", "*1"), ("0*", "11")), False)
        self.assertIs(is_finer(HALF_SET, ("0*", "11"), ("00", "*1")), False)
        self.assertIs(is_finer(WHOLE[2], ("0*", "1*"), ("**",)), True)
        self.assertIs(is_finer(WHOLE[2], ("0*", "1*"), ("*0", "*1")), False)
        self.assertIs(is_finer(WHOLE[2], ("0*", "10", "11"), ("0*", "1*")), True)

    def test_than_itself(self):
        for bits in range(1, 7):
            for faces in (("*" * bits,), WHOLE[bits][1]):
                self.assertIs(is_finer(WHOLE[bits], faces, faces), True)
            self.assertIs(is_finer(NOTHING[bits], (), ()), True)

    def test_ends_of_one_to_six_bits(self):
        for bits in range(1, 7):
            singles, whole = WHOLE[bits][1], ("*" * bits,)
            self.assertIs(is_finer(WHOLE[bits], singles, whole), True)
            self.assertIs(is_finer(WHOLE[bits], whole, singles), False)

    def test_all_pairs_of_partings(self):
        for some in (HALF_SET, WHOLE[1], WHOLE[2], NOTHING[2], WHOLE[3], (3, corners_in("*1*"))):
            rows = partings_of(some)
            for one in rows:
                for other in rows:
                    finer = all(
                        any(set(corners_in(small)) <= set(corners_in(wide)) for wide in other) for small in one
                    )
                    self.assertIs(is_finer(some, one, other), finer, (one, other))

    def test_refused_in_either_place(self):
        right = ("00", "*1")
        wrong = ((), ("**",), ("*1", "00"), ("00", "*1", "*1"), ("0*", "*1"), ("",), ("00", "x1"), ("00", "1"), ("00",))
        for faces in wrong:
            for one, other in ((faces, right), (right, faces), (faces, faces)):
                with self.assertRaises(NoParting) as caught:
                    is_finer(HALF_SET, one, other)
                check_refusal(self, caught.exception)

    def test_faces_of_no_corners_refused(self):
        for one, other in ((("0",), ()), ((), ("0",))):
            with self.assertRaises(NoParting):
                is_finer(NOTHING[1], one, other)

    def test_the_first_is_refused_ahead_of_the_second(self):
        texts = []
        for one, other in ((("**",), ()), (("**",), ("00", "*1")), (("00", "*1"), ())):
            with self.assertRaises(NoParting) as caught:
                is_finer(HALF_SET, one, other)
            texts.append(str(caught.exception))
        self.assertEqual(texts[0], texts[1])
        self.assertNotEqual(texts[0], texts[2])


class AgainTest(unittest.TestCase):
    """Point 2: the same asked again is answered the same, also behind a refusal."""

    def test_again(self):
        faces = ("00", "*1")
        before = is_parting(HALF_SET, faces), sizes_of(HALF_SET, faces), is_finer(HALF_SET, faces, faces)
        for _ in range(2):
            with self.assertRaises(NoParting):
                sizes_of(HALF_SET, ("**",))
            with self.assertRaises(NoParting):
                is_finer(HALF_SET, faces, ())
        after = is_parting(HALF_SET, faces), sizes_of(HALF_SET, faces), is_finer(HALF_SET, faces, faces)
        self.assertEqual(before, after)


if __name__ == "__main__":
    unittest.main()
