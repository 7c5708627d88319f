"""The whole: point 3, what partings, covers and trees tell of one set; and point 2 over the whole program."""

import unittest

from facesparted.faces.partings import is_finer, is_parting, sizes_of
from facesparted.faces.texts import corners_of, has_all, how_many, read_set, set_shown
from facesparted.kept import KeptFaces
from facesparted.least.covers import fewest_cover, greatest_faces
from facesparted.least.fewest import all_partings, counts_by_faces, fewest_faces
from facesparted.least.onesize import count_of_size, parting_of_size
from facesparted.least.trees import comes_by_tree, fewest_leaves, is_right, least_depth, parting_by
from facesparted.shown.odd import least_single, odd_counts, shows_none
from facesparted.shown.tight import count_tight, is_tight, made_up
from plain import (
    HALF_SET,
    NOTHING,
    WHOLE,
    all_corners,
    all_sets,
    first_of,
    in_order,
    partings_of_whole,
    some_sets,
    stirred,
)


def others_of(some):
    bits, corners = some
    return bits, tuple(corner for corner in all_corners(bits) if corner not in corners)


def asked_in_turn(some, bits_asked, face):
    """A right tree that asks these bits in turn, but none where all corners of the face are told alike."""
    there = {corner in some[1] for corner in corners_of(face)}
    if len(there) == 1:
        return "1" if True in there else "0"
    bit = bits_asked[0]
    halves = [face[:bit] + sign + face[bit + 1:] for sign in "01"]
    return (bit,) + tuple(asked_in_turn(some, bits_asked[1:], half) for half in halves)


def sets_looked_at():
    for bits in (1, 2, 3):
        yield from all_sets(bits)
    yield from some_sets(4, 613)


class PartingsAndCoversTest(unittest.TestCase):
    def test_a_parting_is_a_cover(self):
        fewer = 0
        for some in sets_looked_at():
            fewest, _, faces = fewest_faces(some)
            covering, cover = fewest_cover(some)
            self.assertLessEqual(covering, fewest)
            fewer += covering < fewest
            if covering == fewest:
                # So this parting is among the fewest covers, and the first of those is not behind it.
                self.assertEqual(first_of([faces, cover]), cover)
            if is_parting(some, cover):
                self.assertEqual((covering, cover), (fewest, faces))
        self.assertGreater(fewer, 0)

    def test_all_faces_lie_in_greatest_ones(self):
        for some in sets_looked_at():
            greatest = greatest_faces(some)
            for face in fewest_faces(some)[2] + fewest_cover(some)[1]:
                self.assertTrue(any(has_all(wide, face) for wide in greatest))
            self.assertLessEqual(fewest_cover(some)[0], len(greatest))

    def test_one_face_is_all_of_them(self):
        for some in sets_looked_at():
            if fewest_cover(some)[0] == 1:
                face = fewest_cover(some)[1][0]
                self.assertEqual(corners_of(face), some[1])
                self.assertEqual(fewest_faces(some), (1, 1, (face,)))
                self.assertEqual(greatest_faces(some), (face,))
                self.assertEqual(parting_of_size(some, face.count("*")), (face,))

    def test_counts(self):
        for some in sets_looked_at():
            fewest, many, faces = fewest_faces(some)
            counts = counts_by_faces(some)
            self.assertEqual(counts[:fewest + 1], (0,) * fewest + (many,))
            self.assertEqual(count_of_size(some, 0), 1)
            self.assertIs(is_finer(some, some[1], faces), True)

    def test_what_shows_that_there_is_none(self):
        for some in sets_looked_at():
            self.assertLessEqual(least_single(some), sizes_of(some, fewest_faces(some)[2])[0])
            for stars in range(some[0] + 2):
                parting = parting_of_size(some, stars)
                if shows_none(some, stars) is not None:
                    self.assertIsNone(parting)
                self.assertEqual(parting is None, count_of_size(some, stars) == 0)
                if parting is not None:
                    self.assertIs(is_parting(some, parting), True)
                    self.assertLessEqual(count_of_size(some, stars), counts_by_faces(some)[len(parting)])
            self.assertEqual(odd_counts(some)[0], len(some[1]))


class TreesTest(unittest.TestCase):
    def test_leaves_are_partings(self):
        for some in sets_looked_at():
            leaves, depth = fewest_leaves(some), least_depth(some)
            self.assertGreaterEqual(leaves, fewest_faces(some)[0] + fewest_faces(others_of(some))[0])
            self.assertGreaterEqual(2 ** depth, leaves)
            self.assertGreater(leaves, depth)
            self.assertEqual(leaves == 1, some[1] in ((), WHOLE[some[0]][1]))

    def test_by_a_tree_set_and_others_are_parted(self):
        for some in sets_looked_at():
            bits = some[0]
            for turn in (list(range(bits)), list(range(bits))[::-1]):
                tree = asked_in_turn(some, turn, "*" * bits)
                self.assertIs(is_right(some, tree), True)
                faces = parting_by(some, tree)
                self.assertIs(is_parting(some, faces), True)
                self.assertGreater(counts_by_faces(some)[len(faces)], 0)
                rest = parting_by(others_of(some), asked_in_turn(others_of(some), turn, "*" * bits))
                both = in_order(faces + rest)
                self.assertIs(is_parting(WHOLE[bits], both), True)
                self.assertIs(comes_by_tree(bits, both), True)
                self.assertGreaterEqual(len(both), fewest_leaves(some))

    def test_tight_partings_come_by_no_tree(self):
        for bits in (1, 2, 3):
            partings = all_partings(bits)
            tight = [faces for faces in partings if is_tight(bits, faces)]
            self.assertEqual(sum(count_tight(bits)), len(tight))
            for faces in tight:
                self.assertIs(comes_by_tree(bits, faces), bits == 1)
        for faces in partings_of_whole(4)[::101]:
            if comes_by_tree(4, faces):
                self.assertIs(is_tight(4, faces), False)
                if len(faces) > 2:
                    self.assertIsNotNone(made_up(4, faces))


class KeptTest(unittest.TestCase):
    def test_kept_faces_are_a_parting(self):
        for bits in range(1, 5):
            kept, there = KeptFaces(bits), set(all_corners(bits))
            for corner in stirred(bits, 3) + stirred(bits, 5):
                if corner in there:
                    kept.go_corner(corner)
                else:
                    kept.come_corner(corner)
                there ^= {corner}
                some = (bits, tuple(sorted(there)))
                faces = kept.faces_now()
                self.assertIs(is_parting(some, faces), True)
                self.assertEqual(sum(sizes_of(some, faces)), len(faces))
                self.assertLessEqual(fewest_faces(some)[0], len(faces))
                self.assertGreater(counts_by_faces(some)[len(faces)], 0)
                self.assertEqual(sum(how_many(face) for face in faces), kept.many_now())


class AgainTest(unittest.TestCase):
    """Point 2: the same asked of the same, in any order, is answered the same."""

    def test_in_another_order(self):
        asks = [
            set_shown, fewest_faces, counts_by_faces, fewest_cover, greatest_faces, least_depth, fewest_leaves,
            odd_counts, least_single, lambda some: parting_of_size(some, 1), lambda some: count_of_size(some, 1),
            lambda some: shows_none(some, 1),
        ]
        sets = [HALF_SET, NOTHING[1], WHOLE[4], NOTHING[4], read_set("01111110"), read_set("0110100110010110")]
        first = [[ask(some) for ask in asks] for some in sets]
        again = [[ask(some) for some in reversed(sets)] for ask in reversed(asks)]
        for row, some_told in enumerate(first):
            for at, told in enumerate(some_told):
                self.assertEqual(again[-1 - at][-1 - row], told)

    def test_an_equal_set_is_the_same(self):
        for some in sets_looked_at():
            other = read_set(set_shown(some))
            self.assertEqual(other, some)
            self.assertEqual(fewest_cover(other), fewest_cover(some))


if __name__ == "__main__":
    unittest.main()
