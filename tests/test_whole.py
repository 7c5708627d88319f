"""The desk: point 19."""

import unittest

from facesparted.errors import NoAsk, NoCorner
from facesparted.faces.partings import is_parting
from facesparted.faces.texts import set_shown
from facesparted.least.covers import fewest_cover
from facesparted.least.fewest import fewest_faces
from facesparted.least.onesize import parting_of_size
from facesparted.shown.odd import odd_counts
from facesparted.whole import Desk
from plain import (
    ODD_TEXTS,
    TIGHT,
    SlowKept,
    all_corners,
    all_faces,
    check_refusal,
    other_orders,
    partings_of,
    stirred,
)

LOOKING = ["faces", "set", "many", "odd"]
SMALL = ["fewest", "ways", "cover"] + [f"sized {stars}" for stars in range(7)]
ZEROS = " 0" * 31


class DeskCase(unittest.TestCase):
    def told(self, desk, line, rows):
        found = desk.ask(line)
        self.assertEqual(found, rows, line)
        self.assertIs(type(found), list)
        self.assertTrue(all(type(row) is str for row in found))

    def all_told(self, desk, bits):
        """Ask all that a desk of so many bits can be asked, to see later whether something changed."""
        lines = LOOKING + (SMALL if bits <= 4 else []) + [f"at {corner}" for corner in all_corners(bits)]
        return [desk.ask(line) for line in lines]

    def refused(self, desk, line, kind=NoAsk):
        with self.assertRaises(kind) as caught:
            desk.ask(line)
        check_refusal(self, caught.exception, kind)
        return caught.exception

    def refused_corner(self, desk, line):
        told = self.refused(desk, line, NoCorner)
        self.assertEqual(told.corner, line.partition(" ")[2])

    def desk_of(self, bits, corners):
        """A desk where just these corners are there, and its slow counterpart."""
        desk, slow = Desk(), SlowKept(bits)
        self.told(desk, f"bits {bits}", [])
        for corner in all_corners(bits):
            if corner not in corners:
                self.told(desk, f"go {corner}", [])
                slow.go(corner)
        return desk, slow


class LinesTest(DeskCase):
    """Point 19: each line that the desk knows."""

    def test_at_first_three_bits(self):
        desk = Desk()
        for line, rows in (
            ("faces", ["***"]), ("set", ["11111111"]), ("many", ["8"]), ("at 010", ["***"]), ("fewest", ["1"]),
            ("ways", ["1"]), ("cover", ["***"]), ("sized 0", ["000 001 010 011 100 101 110 111"]),
            ("sized 1", ["00* 01* 10* 11*"]), ("sized 2", ["0** 1**"]), ("sized 3", ["***"]), ("sized 4", ["none"]),
            ("odd", ["8 0 0 0 0 0 0 0"]), ("parted ***", ["yes"]), ("parted 0** 1**", ["yes"]), ("parted ", ["no"]),
        ):
            self.told(desk, line, rows)

    def test_after_a_corner_has_gone(self):
        desk = Desk()
        self.told(desk, "go 010", [])
        for line, rows in (
            ("faces", ["00* 011 1**"]), ("set", ["11011111"]), ("many", ["7"]), ("at 010", ["none"]),
            ("at 011", ["011"]), ("at 111", ["1**"]), ("fewest", ["3"]), ("ways", ["6"]), ("cover", ["000 0*1 1**"]),
            ("sized 0", ["000 001 011 100 101 110 111"]), ("sized 1", ["none"]), ("sized 6", ["none"]),
            ("odd", ["7 -1 1 1 -1 -1 1 1"]), ("parted 00* 011 1**", ["yes"]), ("parted ***", ["no"]),
        ):
            self.told(desk, line, rows)
        self.told(desk, "come 010", [])
        self.told(desk, "faces", ["***"])

    def test_one_bit(self):
        desk = Desk()
        self.told(desk, "bits 1", [])
        for line, rows in (
            ("faces", ["*"]), ("set", ["11"]), ("many", ["2"]), ("at 0", ["*"]), ("at 1", ["*"]), ("fewest", ["1"]),
            ("ways", ["1"]), ("cover", ["*"]), ("sized 0", ["0 1"]), ("sized 1", ["*"]), ("sized 2", ["none"]),
            ("odd", ["2 0"]), ("parted *", ["yes"]), ("parted 0 1", ["yes"]), ("parted 1 0", ["no"]),
        ):
            self.told(desk, line, rows)
        self.told(desk, "go 0", [])
        for line, rows in (
            ("faces", ["1"]), ("set", ["01"]), ("many", ["1"]), ("at 0", ["none"]), ("at 1", ["1"]), ("odd", ["1 -1"]),
            ("cover", ["1"]), ("sized 0", ["1"]), ("sized 1", ["none"]), ("parted 1", ["yes"]), ("parted 0", ["no"]),
        ):
            self.told(desk, line, rows)

    def test_no_corners(self):
        for bits in range(1, 7):
            desk, _ = self.desk_of(bits, ())
            self.told(desk, "faces", [])
            self.told(desk, "set", ["0" * 2 ** bits])
            self.told(desk, "many", ["0"])
            self.told(desk, "at " + "0" * bits, ["none"])
            self.told(desk, "odd", [" ".join(["0"] * 2 ** bits)])
            self.told(desk, "parted ", ["yes"])
            self.told(desk, "parted  ", ["no"])
            self.told(desk, "parted " + "0" * bits, ["no"])
            if bits <= 4:
                self.told(desk, "fewest", ["0"])
                self.told(desk, "ways", ["1"])
                self.told(desk, "cover", [])
                for stars in range(7):
                    self.told(desk, f"sized {stars}", [""])

    def test_all_corners(self):
        for bits in range(1, 7):
            desk = Desk()
            self.told(desk, f"bits {bits}", [])
            self.told(desk, "faces", ["*" * bits])
            self.told(desk, "set", ["1" * 2 ** bits])
            self.told(desk, "many", [str(2 ** bits)])
            self.told(desk, "odd", [" ".join([str(2 ** bits)] + ["0"] * (2 ** bits - 1))])
            self.told(desk, "parted " + "*" * bits, ["yes"])
            self.told(desk, "parted " + " ".join(all_corners(bits)), ["yes"])
            for corner in all_corners(bits):
                self.told(desk, "at " + corner, ["*" * bits])

    def test_bits_begin_anew(self):
        desk = Desk()
        for bits in (3, 3, 6, 1, 5, 2, 4, 3):
            self.told(desk, f"bits {bits}", [])
            self.told(desk, "faces", ["*" * bits])
            self.told(desk, "go " + "1" * bits, [])
            self.told(desk, "many", [str(2 ** bits - 1)])

    def test_against_what_the_parts_tell(self):
        for bits in range(1, 7):
            for step in (3, 5):
                desk, slow = Desk(), SlowKept(bits)
                desk.ask(f"bits {bits}")
                deeds = [("go", corner) for corner in stirred(bits, step)]
                deeds += [("come", corner) for corner in stirred(bits, step + 4)]
                for deed, corner in deeds[:160:1 + bits // 6]:
                    if (deed == "go") != (corner in slow.corners()):
                        continue
                    self.told(desk, f"{deed} {corner}", [])
                    slow.do(deed, corner)
                    self.look(desk, slow)

    def look(self, desk, slow):
        bits, faces, some = slow.bits, slow.faces(), (slow.bits, slow.corners())
        row = " ".join(faces)
        self.told(desk, "faces", [row] if faces else [])
        self.told(desk, "set", ["".join("01"[corner in some[1]] for corner in all_corners(bits))])
        self.told(desk, "set", [set_shown(some)])
        self.told(desk, "many", [str(len(some[1]))])
        self.told(desk, "odd", [" ".join(str(count) for count in odd_counts(some))])
        self.told(desk, f"parted {row}", ["yes"])
        for corner in all_corners(bits)[::1 + bits // 3]:
            there = [face for face in faces if all(sign in ("*", bit) for sign, bit in zip(face, corner))]
            self.told(desk, f"at {corner}", there or ["none"])
        if bits <= 4:
            fewest, many, _ = fewest_faces(some)
            self.told(desk, "fewest", [str(fewest)])
            self.told(desk, "ways", [str(many)])
            cover = fewest_cover(some)[1]
            self.told(desk, "cover", [" ".join(cover)] if cover else [])
            for stars in range(7):
                parting = parting_of_size(some, stars)
                self.told(desk, f"sized {stars}", ["none"] if parting is None else [" ".join(parting)])

    def test_three_hundred_and_fifty_deeds(self):
        desk, slow = Desk(), SlowKept(3)
        for number in range(350):
            corner = all_corners(3)[(number * number * 7 + number // 3) % 8]
            deed = "go" if corner in slow.corners() else "come"
            self.told(desk, f"{deed} {corner}", [])
            slow.do(deed, corner)
            self.told(desk, "faces", [" ".join(slow.faces())] if slow.faces() else [])

    def test_odd_of_six_bits(self):
        desk = Desk()
        desk.ask("bits 5")
        self.told(desk, "odd", ["32" + ZEROS])
        desk.ask("bits 6")
        self.told(desk, "odd", ["64" + ZEROS + " 0" + ZEROS])
        desk.ask("go 000000")
        self.told(desk, "odd", ["63" + " -1" * 63])


class PartedTest(DeskCase):
    """Point 19: whether faces are a parting of the corners that are there."""

    def test_all_partings_of_some_sets(self):
        for number in range(0, 256, 11):
            corners = [corner for at, corner in enumerate(all_corners(3)) if number >> at & 1]
            desk, _ = self.desk_of(3, corners)
            for faces in partings_of((3, tuple(corners)))[::5]:
                self.told(desk, "parted " + " ".join(faces), ["yes"])
                self.told(desk, "parted " + " ".join(faces) + " ", ["no"])
                self.told(desk, "parted  " + " ".join(faces), ["no"])
                self.told(desk, "parted " + "  ".join(faces + ("***",)), ["no"])
                if len(faces) > 1:
                    self.told(desk, "parted " + "  ".join(faces), ["no"])
                    self.told(desk, "parted " + " ".join(faces[::-1]), ["no"])
                    self.told(desk, "parted " + " ".join(faces[1:]), ["no"])

    def test_tight_ones(self):
        for bits, faces in TIGHT.items():
            desk = Desk()
            desk.ask(f"bits {bits}")
            self.told(desk, "parted " + " ".join(faces), ["yes"])
            for at in range(len(faces)):
                self.told(desk, "parted " + " ".join(faces[:at] + faces[at + 1:]), ["no"])
                self.told(desk, "parted " + " ".join(faces[:at] + faces[at:at + 1] + faces[at:]), ["no"])
        desk = Desk()
        for other in other_orders(TIGHT[3]):
            self.told(desk, "parted " + " ".join(other), ["no"])

    def test_each_face_alone(self):
        desk, slow = self.desk_of(3, ("010", "110"))
        for face in all_faces(3):
            self.told(desk, f"parted {face}", ["yes" if face == "*10" else "no"])
        self.assertIs(is_parting((3, slow.corners()), ("*10",)), True)

    def test_words_that_are_no_faces(self):
        desk = Desk()
        for text in ODD_TEXTS:
            if text:
                self.told(desk, f"parted {text}", ["no"])
            self.told(desk, f"parted {text} ***", ["no"])
            self.told(desk, f"parted *** {text}", ["no"])
            self.told(desk, f"parted 0** {text} 1**", ["no"])
        for rest in (" ", "  ", " ***", "*** ", "0**  1**", "***\n", "parted ***", "~", "* * *", " " * 690):
            self.told(desk, f"parted {rest}", ["no"])

    def test_nothing_behind_the_blank(self):
        desk = Desk()
        for corner in all_corners(3):
            self.told(desk, "parted ", ["no"])
            desk.ask(f"go {corner}")
        self.told(desk, "parted ", ["yes"])
        self.refused(desk, "parted")

    def test_eighty_words(self):
        desk = Desk()
        desk.ask("bits 6")
        self.told(desk, "parted " + " ".join(["******"] * 80), ["no"])
        self.told(desk, "parted " + " ".join(all_corners(6)), ["yes"])


class RefusedTest(DeskCase):
    """Point 19: lines and corners that are refused, which change nothing."""

    def desks(self):
        """A desk of each number of bits where some corners have gone."""
        for bits in range(1, 7):
            yield self.desk_of(bits, stirred(bits, 3)[:2 ** bits // 3])

    def test_other_lines(self):
        lines = [
            "", " ", "  ", "\n", "bit 3", "Faces", "FACES", "faces ", " faces", "faces\n", "faces 1", "faces  ", "set ",
            "set 1", "many ", "many 3", "odd ", "odd 1", "fewest ", "fewest 1", "ways ", "ways 2", "cover ", "cover 0",
            "sized", "bits", "go", "come", "at", "parted", "Parted ", "parted\n", "none", "yes", "at\n000", "go\n000",
            "sized 1 ", "sized 1 1", "sized  1", " sized 1", "bits 3 ", "bits  3", " bits 3", "bits 3 3", "~", "face",
            "x" * 700, " " * 700, "\n" * 700, "leave", "help", "go,000", "go:000", "faces;set", "faces\nset", "* * *",
        ]
        for desk, slow in self.desks():
            before = self.all_told(desk, slow.bits)
            corner = "0" * slow.bits
            for line in lines:
                self.refused(desk, line)
            for word in ("go", "come", "at"):
                for line in (f"{word}  {corner}", f" {word} {corner}", f"{word} {corner} ", f"{word} {corner} {corner}",
                             f"{word}{corner}", f"{word}  ", f"{word.upper()} {corner}"):
                    self.refused(desk, line)
            self.assertEqual(self.all_told(desk, slow.bits), before)

    def test_numbers_that_are_none(self):
        words = [
            "", "7", "8", "9", "10", "00", "01", "03", "06", "007", "-1", "-0", "+1", "1.0", "1_0", "3\n", "\n3", "x",
            "three", "*", "0x1", "1e0", "~", "1,", "66", "123456", "9" * 600, "0" * 600, "12", "56", "0123456",
        ]
        for desk, slow in self.desks():
            before = self.all_told(desk, slow.bits)
            for word in words:
                self.refused(desk, f"bits {word}")
                self.refused(desk, f"sized {word}")
            self.refused(desk, "bits 0")
            self.assertEqual(self.all_told(desk, slow.bits), before)

    def test_at_most_four_bits(self):
        for bits in (5, 6):
            for corners in ((), ("0" * bits,), all_corners(bits)[::2], all_corners(bits)):
                desk, slow = self.desk_of(bits, corners)
                before = self.all_told(desk, slow.bits)
                for line in SMALL + ["sized 7", "sized 00", "sized "]:
                    self.refused(desk, line)
                self.assertEqual(self.all_told(desk, slow.bits), before)
        desk = Desk()
        for bits in (4, 5, 4, 6, 1):
            desk.ask(f"bits {bits}")
            for line in SMALL:
                if bits > 4:
                    self.refused(desk, line)
                else:
                    self.assertEqual(len(desk.ask(line)), 1)

    def test_no_corners(self):
        for desk, slow in self.desks():
            bits = slow.bits
            before = self.all_told(desk, slow.bits)
            wrong = ["", "0" * (bits - 1), "1" * (bits + 1), "*" * bits, "1" * (bits - 1) + "*", "2" * bits]
            wrong += ["0" * (bits - 1) + "\n", "x" * bits, "~" * 600, "-" + "1" * (bits - 1), "none"]
            for word in ("go", "come", "at"):
                for text in wrong:
                    self.refused_corner(desk, f"{word} {text}")
            self.assertEqual(self.all_told(desk, slow.bits), before)

    def test_there_already_or_not_there(self):
        for desk, slow in self.desks():
            before = self.all_told(desk, slow.bits)
            for corner in all_corners(slow.bits):
                self.refused_corner(desk, f"{'come' if corner in slow.corners() else 'go'} {corner}")
            self.assertEqual(self.all_told(desk, slow.bits), before)

    def test_a_corner_of_the_bits_before(self):
        desk = Desk()
        desk.ask("bits 4")
        for word in ("go", "come", "at"):
            self.refused_corner(desk, f"{word} 000")
        desk.ask("go 0000")
        desk.ask("bits 3")
        for word in ("go", "come", "at"):
            self.refused_corner(desk, f"{word} 0000")
        self.refused(desk, "bits 7")
        self.told(desk, "at 000", ["***"])

    def test_going_on_behind_refusals(self):
        desk, slow = Desk(), SlowKept(3)
        for corner in stirred(3, 3) + stirred(3, 5)[::-1]:
            deed, other = ("go", "come") if corner in slow.corners() else ("come", "go")
            self.refused_corner(desk, f"{other} {corner}")
            self.refused(desk, f"{deed} {corner} ")
            self.refused(desk, f"{deed}")
            self.told(desk, f"{deed} {corner}", [])
            slow.do(deed, corner)
            self.told(desk, "faces", [" ".join(slow.faces())] if slow.faces() else [])


class ApartTest(DeskCase):
    """Point 2: desks that do not touch one another, and rows that are the asker's own."""

    def test_two_desks(self):
        one, other = Desk(), Desk()
        one.ask("bits 2")
        self.told(other, "faces", ["***"])
        other.ask("go 111")
        self.told(one, "faces", ["**"])
        one.ask("go 11")
        self.told(one, "faces", ["0* 10"])
        self.told(other, "faces", ["0** 10* 110"])
        self.refused(one, "go 111", NoCorner)
        one.ask("bits 3")
        self.told(one, "faces", ["***"])
        self.told(other, "faces", ["0** 10* 110"])
        self.told(Desk(), "faces", ["***"])

    def test_rows_are_the_asker_s_own(self):
        desk = Desk()
        desk.ask("go 011")
        for line in LOOKING + SMALL + ["at 011", "at 000", "parted ***", "parted "]:
            first = desk.ask(line)
            kept = list(first)
            first.append("1**")
            first[0] = "0"
            self.assertEqual(desk.ask(line), kept)
            desk.ask(line).clear()
            self.assertEqual(desk.ask(line), kept)
        for line in ("go 000", "come 000", "bits 3"):
            told = desk.ask(line)
            told.append("x")
            self.assertEqual(told, ["x"])
        self.told(desk, "go 000", [])

    def test_what_was_told_stays(self):
        desk = Desk()
        told = [desk.ask(line) for line in LOOKING + SMALL]
        kept = [list(rows) for rows in told]
        for corner in all_corners(3):
            desk.ask(f"go {corner}")
        desk.ask("bits 5")
        self.assertEqual(told, kept)

    def test_looking_changes_nothing(self):
        for bits in (1, 4, 6):
            desk, slow = self.desk_of(bits, stirred(bits, 5)[:2 ** bits // 2])
            first = self.all_told(desk, slow.bits)
            self.assertEqual(self.all_told(desk, slow.bits), first)
            self.told(desk, "faces", [" ".join(slow.faces())])


if __name__ == "__main__":
    unittest.main()
