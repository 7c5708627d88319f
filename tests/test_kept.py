"""Kept faces: point 18."""

import unittest

from facesparted.errors import NoCorner
from facesparted.faces.partings import is_parting
from facesparted.kept import KeptFaces
from plain import ODD_TEXTS, SlowKept, all_corners, all_faces, check_refusal, in_order, stirred


class KeptCase(unittest.TestCase):
    def told(self, kept, faces):
        """Look at what is told, and that it is a parting of as many corners."""
        self.assertEqual(kept.faces_now(), faces)
        self.assertIs(type(kept.faces_now()), tuple)
        self.assertIs(type(kept.many_now()), int)
        self.assertEqual(kept.many_now(), sum(2 ** face.count("*") for face in faces))

    def refused(self, deed, corner):
        with self.assertRaises(NoCorner) as caught:
            deed(corner)
        check_refusal(self, caught.exception, NoCorner)
        self.assertEqual(caught.exception.corner, corner)

    def both(self, kept, slow, deed, corner):
        """Do it to both of them, and look at both."""
        self.assertIsNone(kept.go_corner(corner) if deed == "go" else kept.come_corner(corner))
        slow.do(deed, corner)
        self.told(kept, slow.faces())
        self.assertEqual(kept.many_now(), len(slow.corners()))
        self.assertIs(is_parting((slow.bits, slow.corners()), kept.faces_now()), True)


class DeedsTest(KeptCase):
    """Point 18: corners that go and come."""

    def test_at_first_the_whole_cube(self):
        for bits in range(1, 7):
            self.told(KeptFaces(bits), ("*" * bits,))

    def test_the_first_free_bit_first(self):
        kept = KeptFaces(3)
        kept.go_corner("000")
        self.told(kept, ("001", "01*", "1**"))
        kept = KeptFaces(3)
        kept.go_corner("101")
        self.told(kept, ("0**", "100", "11*"))
        kept.go_corner("010")
        self.told(kept, ("00*", "011", "100", "11*"))

    def test_only_the_corner_s_face_is_parted(self):
        kept = KeptFaces(3)
        for corner in ("000", "100"):
            kept.go_corner(corner)
        self.told(kept, ("001", "01*", "101", "11*"))
        kept.go_corner("001")
        self.told(kept, ("01*", "101", "11*"))
        kept.go_corner("111")
        self.told(kept, ("01*", "101", "110"))

    def test_a_corner_comes_alone_or_is_made_one(self):
        kept = KeptFaces(2)
        for corner in all_corners(2):
            kept.go_corner(corner)
        self.told(kept, ())
        kept.come_corner("00")
        self.told(kept, ("00",))
        kept.come_corner("11")
        self.told(kept, ("00", "11"))
        kept.come_corner("01")
        # 00 is ahead of 11.
        self.told(kept, ("0*", "11"))
        kept.come_corner("10")
        self.told(kept, ("**",))

    def test_the_first_in_order_is_the_partner(self):
        kept = KeptFaces(2)
        for corner in all_corners(2):
            kept.go_corner(corner)
        for corner in ("01", "10", "11"):
            kept.come_corner(corner)
        self.told(kept, ("10", "*1"))
        kept.come_corner("00")
        # 00 and 10 make *0, and that and *1 the whole.
        self.told(kept, ("**",))
        for corner in all_corners(2):
            kept.go_corner(corner)
        for corner in ("10", "01", "00"):
            kept.come_corner(corner)
        self.told(kept, ("0*", "10"))

    def test_only_the_newest_is_made_one(self):
        kept = KeptFaces(3)
        for corner in ("000", "011"):
            kept.go_corner(corner)
        self.told(kept, ("001", "010", "1**"))
        for corner in ("100", "111"):
            kept.go_corner(corner)
        # 001 and 101 make a face, and 010 and 110, but neither of them is the newest one.
        self.told(kept, ("001", "010", "101", "110"))
        kept.come_corner("111")
        self.told(kept, ("001", "010", "110", "1*1"))

    def test_till_none_and_till_all_are_there(self):
        for bits in range(1, 7):
            for step in (1, 3, 5, 2 ** bits - 1):
                kept, slow = KeptFaces(bits), SlowKept(bits)
                for corner in stirred(bits, step):
                    self.both(kept, slow, "go", corner)
                self.told(kept, ())
                for corner in stirred(bits, step + 2)[::-1]:
                    self.both(kept, slow, "come", corner)
                self.assertEqual(kept.many_now(), 2 ** bits)

    def test_each_corner_that_goes_and_comes_again(self):
        for bits in range(1, 7):
            for corner in all_corners(bits):
                kept, slow = KeptFaces(bits), SlowKept(bits)
                self.both(kept, slow, "go", corner)
                self.both(kept, slow, "come", corner)
                self.told(kept, ("*" * bits,))

    def test_every_set_of_three_bits(self):
        whole = all_corners(3)
        for number in range(256):
            kept, slow = KeptFaces(3), SlowKept(3)
            for at, corner in enumerate(whole):
                if number >> at & 1:
                    self.both(kept, slow, "go", corner)
            for at, corner in enumerate(whole):
                if number >> (7 - at) & 1 and corner not in slow.corners():
                    self.both(kept, slow, "come", corner)

    def test_three_hundred_and_fifty_deeds(self):
        for bits in range(1, 7):
            whole = all_corners(bits)
            kept, slow = KeptFaces(bits), SlowKept(bits)
            for number in range(350):
                corner = whole[(number * number * 7 + number // 3) % len(whole)]
                self.both(kept, slow, "go" if corner in slow.corners() else "come", corner)


class RefusedTest(KeptCase):
    """Point 18: corners that are refused, which change nothing."""

    def check(self, kept, deed, corner):
        before = (kept.faces_now(), kept.many_now())
        self.refused(deed, corner)
        self.assertEqual((kept.faces_now(), kept.many_now()), before)

    def test_there_already_or_not_there(self):
        for bits in range(1, 7):
            kept = KeptFaces(bits)
            for corner in stirred(bits, 3):
                self.check(kept, kept.come_corner, corner)
                kept.go_corner(corner)
                self.check(kept, kept.go_corner, corner)
            for corner in stirred(bits, 5):
                self.check(kept, kept.go_corner, corner)
                kept.come_corner(corner)
                self.check(kept, kept.come_corner, corner)

    def test_no_corners(self):
        for bits in range(1, 7):
            kept = KeptFaces(bits)
            kept.go_corner("0" * bits)
            wrong = ["", "0" * (bits - 1), "0" * (bits + 1), "1" * (bits + 1), "1" * 700]
            wrong += [sign + "1" * (bits - 1) for sign in "*2 x~-\n"]
            wrong += ["1" * (bits - 1) + sign for sign in "*2 x~-\n"]
            wrong += [text for text in ODD_TEXTS if text not in all_corners(bits)]
            for text in wrong:
                self.check(kept, kept.go_corner, text)
                self.check(kept, kept.come_corner, text)

    def test_faces_are_no_corners(self):
        kept = KeptFaces(3)
        kept.go_corner("010")
        for face in all_faces(3):
            if "*" in face:
                self.check(kept, kept.go_corner, face)
                self.check(kept, kept.come_corner, face)

    def test_what_comes_behind_is_as_if_nothing_was_refused(self):
        kept, slow = KeptFaces(4), SlowKept(4)
        for corner in stirred(4, 3) + stirred(4, 5)[:9] + stirred(4, 5)[2:7]:
            there = corner in slow.corners()
            self.check(kept, kept.come_corner if there else kept.go_corner, corner)
            self.check(kept, kept.go_corner, corner + "0")
            self.both(kept, slow, "go" if there else "come", corner)

    def test_none_there_and_all_there(self):
        for bits in range(1, 7):
            kept = KeptFaces(bits)
            for corner in all_corners(bits):
                self.check(kept, kept.come_corner, corner)
                kept.go_corner(corner)
            for corner in all_corners(bits):
                self.check(kept, kept.go_corner, corner)
            self.told(kept, ())


class ApartTest(KeptCase):
    """Point 2: kept faces that do not touch one another, and what was told before."""

    def test_two_of_them(self):
        one, other = KeptFaces(3), KeptFaces(3)
        one.go_corner("011")
        self.told(other, ("***",))
        other.go_corner("100")
        self.told(one, ("00*", "010", "1**"))
        self.told(other, ("0**", "101", "11*"))
        one.come_corner("011")
        self.told(other, ("0**", "101", "11*"))

    def test_what_was_told_stays(self):
        kept = KeptFaces(2)
        first = kept.faces_now()
        kept.go_corner("00")
        second = kept.faces_now()
        kept.come_corner("00")
        self.assertEqual((first, second, kept.faces_now()), (("**",), ("01", "1*"), ("**",)))

    def test_asked_again(self):
        kept = KeptFaces(5)
        for corner in stirred(5, 3)[:11]:
            kept.go_corner(corner)
        told = (kept.faces_now(), kept.many_now())
        for _ in range(3):
            self.assertEqual((kept.faces_now(), kept.many_now()), told)
        self.assertEqual(told[0], in_order(told[0]))

    def test_the_same_deeds_come_to_the_same(self):
        rows = []
        for _ in range(2):
            kept = KeptFaces(6)
            for corner in stirred(6, 7)[:40]:
                kept.go_corner(corner)
            for corner in stirred(6, 7)[10:30]:
                kept.come_corner(corner)
            rows.append(kept.faces_now())
        self.assertEqual(rows[0], rows[1])
        self.assertEqual(kept.many_now(), 44)


if __name__ == "__main__":
    unittest.main()
