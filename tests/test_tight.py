"""Tight partings: point 14."""

import unittest
from itertools import combinations

from facesparted.errors import NoParting
from facesparted.faces.partings import is_parting
from facesparted.faces.texts import has_all, how_many
from facesparted.least.fewest import all_partings
from facesparted.shown.tight import count_tight, is_tight, made_up
from plain import (
    ODD_TEXTS,
    TIGHT,
    WHOLE,
    all_faces,
    check_refusal,
    corners_in,
    halves,
    in_order,
    other_orders,
    partings_of,
    partings_of_whole,
    tight_with_a_face_parted,
)


def slow_made_up(bits, faces):
    """Several faces are put together in every way there is."""
    unions = {
        frozenset(corner for face in several for corner in corners_in(face))
        for many in range(2, len(faces) + 1)
        for several in combinations(faces, many)
    }
    for wide in all_faces(bits):
        if wide != "*" * bits and wide not in faces and frozenset(corners_in(wide)) in unions:
            return wide
    return None


def less_slow_made_up(bits, faces):
    """Only the faces that lie in the wide one can make it up, and all of them have to."""
    for wide in all_faces(bits):
        whole = set(corners_in(wide))
        inside = [face for face in faces if set(corners_in(face)) <= whole]
        if len(inside) > 1 and wide != "*" * bits:
            if {corner for face in inside for corner in corners_in(face)} == whole:
                return wide
    return None


def slow_tight(bits, faces, made):
    told = all(any(face[bit] != "*" for face in faces) for bit in range(bits))
    return len(faces) >= 2 and told and made is None


class TightTest(unittest.TestCase):
    """Point 14: whether a parting is tight, and what is made up."""

    def check(self, bits, faces, made):
        told = made_up(bits, faces)
        self.assertEqual(told, made, faces)
        self.assertIs(is_tight(bits, faces), slow_tight(bits, faces, made), faces)

    def test_tight_ones(self):
        for bits, faces in TIGHT.items():
            self.assertIs(is_tight(bits, faces), True)
            self.assertIsNone(made_up(bits, faces))

    def test_the_whole_cube_alone(self):
        for bits in range(1, 7):
            self.assertIs(is_tight(bits, ("*" * bits,)), False)
            self.assertIsNone(made_up(bits, ("*" * bits,)))

    def test_two_halves(self):
        self.assertIs(is_tight(1, ("0", "1")), True)
        for bits in range(1, 7):
            for faces in halves(bits):
                self.assertIsNone(made_up(bits, faces))
                self.assertIs(is_tight(bits, faces), bits == 1)

    def test_a_bit_that_no_face_tells(self):
        for bits, tight in TIGHT.items():
            for at in range(bits + 1):
                faces = in_order(face[:at] + "*" + face[at:] for face in tight)
                if bits < 6:
                    self.assertIsNone(made_up(bits + 1, faces))
                    self.assertIs(is_tight(bits + 1, faces), False)

    def test_two_bits_have_none(self):
        for faces in all_partings(2):
            self.assertIs(is_tight(2, faces), False)

    def test_single_corners(self):
        for bits in range(2, 7):
            self.assertEqual(made_up(bits, WHOLE[bits][1]), "0" * (bits - 1) + "*")
            self.assertIs(is_tight(bits, WHOLE[bits][1]), False)

    def test_what_is_made_up(self):
        self.assertEqual(made_up(2, ("0*", "10", "11")), "1*")
        self.assertEqual(made_up(2, ("00", "01", "1*")), "0*")
        self.assertEqual(made_up(2, ("00", "10", "*1")), "*0")
        self.assertEqual(made_up(3, ("00*", "010", "011", "1**")), "01*")
        self.assertEqual(made_up(3, ("000", "010", "0*1", "10*", "11*")), "0*0")
        self.assertEqual(made_up(3, ("00*", "01*", "10*", "11*")), "0**")

    def test_made_up_of_five_and_of_no_fewer(self):
        self.assertEqual(made_up(4, tuple("0" + face for face in TIGHT[3]) + ("1***",)), "0***")
        self.assertEqual(made_up(4, ("0***",) + tuple("1" + face for face in TIGHT[3])), "1***")
        self.assertEqual(made_up(4, in_order([face + "0" for face in TIGHT[3]] + ["***1"])), "***0")

    def test_the_first_of_several_that_are_made_up(self):
        # Made up are, of the first one, 0**, 1**, *0* and *1*, too: 00* stands ahead of them all.
        self.assertEqual(made_up(3, ("000", "001", "01*", "10*", "11*")), "00*")
        self.assertEqual(made_up(3, ("00*", "01*", "100", "101", "11*")), "0**")
        self.assertEqual(made_up(3, ("010", "011", "110", "111", "*0*")), "01*")
        self.assertEqual(made_up(3, ("0*0", "0*1", "1*0", "1*1")), "0**")
        self.assertEqual(made_up(3, ("000", "010", "100", "110", "**1")), "0*0")

    def test_one_face_of_a_tight_one_parted(self):
        for bits, faces in tight_with_a_face_parted():
            self.check(bits, faces, less_slow_made_up(bits, faces))
            self.assertIs(is_tight(bits, faces), False)

    def test_every_parting_of_up_to_three_bits(self):
        for bits in (1, 2, 3):
            for faces in partings_of(WHOLE[bits]):
                made = slow_made_up(bits, faces)
                self.assertEqual(less_slow_made_up(bits, faces), made)
                self.check(bits, faces, made)

    def test_partings_of_four_bits(self):
        tight = 0
        for faces in partings_of_whole(4)[::41]:
            made = slow_made_up(4, faces) if len(faces) < 9 else less_slow_made_up(4, faces)
            self.check(4, faces, made)
            tight += is_tight(4, faces)
        self.assertGreater(tight, 5)

    def test_partings_of_five_and_six_bits(self):
        for number, faces in enumerate(partings_of_whole(4)[::997]):
            other = partings_of_whole(4)[number * 733 % 89512]
            five = in_order([face + "0" for face in faces] + [face + "1" for face in other])
            self.check(5, five, less_slow_made_up(5, five))
            six = in_order([face + "0" for face in five] + ["****11", "***001", "***101"])
            if number % 5 == 0:
                self.assertIs(is_parting(WHOLE[6], six), True)
                self.check(6, six, less_slow_made_up(6, six))

    def test_what_is_told_has_all_corners_of_several(self):
        for faces in all_partings(3):
            told = made_up(3, faces)
            if told is not None:
                inside = [face for face in faces if has_all(told, face)]
                self.assertGreater(len(inside), 1)
                self.assertEqual(sum(how_many(face) for face in inside), how_many(told))


class RefusedTest(unittest.TestCase):
    """Point 14: what is no parting of the whole cube."""

    def refused(self, bits, faces):
        for ask in (is_tight, made_up):
            with self.assertRaises(NoParting) as caught:
                ask(bits, faces)
            check_refusal(self, caught.exception)

    def test_nothing_at_all(self):
        for bits in range(1, 7):
            self.refused(bits, ())

    def test_one_face_that_is_not_the_whole_cube(self):
        for bits in range(1, 7):
            for face in all_faces(bits)[:-1:7]:
                self.refused(bits, (face,))

    def test_faces_that_meet(self):
        self.refused(2, ("0*", "1*", "*1"))
        self.refused(2, ("0*", "*1"))
        self.refused(3, ("000", "01*", "111", "1*0", "1*1", "*01"))
        self.refused(6, ("0*****", "1*****", "******"))

    def test_a_corner_in_no_face(self):
        for bits, faces in TIGHT.items():
            for at in range(len(faces)):
                self.refused(bits, faces[:at] + faces[at + 1:])

    def test_out_of_order(self):
        for other in other_orders(TIGHT[3]):
            self.refused(3, other)
        for bits, faces in TIGHT.items():
            self.refused(bits, faces[::-1])
            self.refused(bits, faces[1:] + faces[:1])

    def test_twice(self):
        for bits, faces in TIGHT.items():
            for at in range(len(faces)):
                self.refused(bits, faces[:at] + faces[at:at + 1] + faces[at:])
            self.refused(bits, ("*" * bits, "*" * bits))

    def test_of_another_length(self):
        for bits, faces in TIGHT.items():
            for others in TIGHT:
                if others != bits:
                    self.refused(others, faces)
            self.refused(bits, ("*" * (bits + 1),))
            self.refused(bits, ("*" * (bits - 1),))
            self.refused(bits, faces[:-1] + (faces[-1] + "*",))
            self.refused(bits, faces[:-1] + (faces[-1][1:],))

    def test_of_other_signs(self):
        for bits, faces in TIGHT.items():
            for sign in ("2", " ", "\n", "x", "~", "-"):
                self.refused(bits, faces[:-1] + (sign + faces[-1][1:],))
                self.refused(bits, faces[:-1] + (faces[-1][:-1] + sign,))
        for text in ODD_TEXTS:
            self.refused(2, (text,))
            self.refused(2, ("0*", "1*", text))
            self.refused(2, (text, "0*", "1*"))

    def test_a_row_of_eighty(self):
        for text in ("", "000000", "******", "x" * 700):
            self.refused(6, (text,) * 80)
        self.refused(6, WHOLE[6][1] + tuple(all_faces(6)[-16:]))


class CountTightTest(unittest.TestCase):
    """Point 14: counts of tight partings."""

    def test_of_one_to_three_bits(self):
        self.assertEqual(count_tight(1), (0, 0, 1))
        self.assertEqual(count_tight(2), (0, 0, 0, 0, 0))
        self.assertEqual(count_tight(3), (0, 0, 0, 0, 0, 8, 0, 0, 0))

    def test_each_parting_once(self):
        for bits in (1, 2, 3):
            counts = [0] * (2 ** bits + 1)
            for faces in partings_of(WHOLE[bits]):
                counts[len(faces)] += slow_tight(bits, faces, slow_made_up(bits, faces))
            told = count_tight(bits)
            self.assertEqual(told, tuple(counts))
            self.assertIs(type(told), tuple)
            self.assertTrue(all(type(many) is int for many in told))


class AgainTest(unittest.TestCase):
    """Point 2: the same asked again is answered the same, also behind refusals and others."""

    def test_again_and_behind_others(self):
        asked = [(bits, faces) for bits, faces in TIGHT.items()] + [(2, ("0*", "10", "11")), (4, ("****",))]
        first = [(is_tight(*each), made_up(*each)) for each in asked]
        counts = [count_tight(bits) for bits in (1, 2, 3)]
        for ask in (is_tight, made_up):
            with self.assertRaises(NoParting):
                ask(3, ("000",))
        all_partings(3).clear()
        again = [(is_tight(*each), made_up(*each)) for each in reversed(asked)]
        self.assertEqual(again, first[::-1])
        self.assertEqual([count_tight(bits) for bits in (1, 2, 3)], counts)


if __name__ == "__main__":
    unittest.main()
