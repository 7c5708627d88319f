"""Trees of questions: points 16 and 17."""

import unittest
from functools import lru_cache

from facesparted.errors import NoParting
from facesparted.faces.partings import is_parting
from facesparted.least.fewest import all_partings
from facesparted.least.trees import comes_by_tree, fewest_leaves, is_right, least_depth, parting_by
from plain import (
    HALF_SET,
    NOTHING,
    ODD_TEXTS,
    TIGHT,
    WHOLE,
    all_corners,
    all_faces,
    all_sets,
    check_refusal,
    corners_in,
    halves,
    in_order,
    other_orders,
    partings_of_whole,
    some_sets,
    tight_with_a_face_parted,
)

BY_FIRST = (0, (1, "0", "1"), (2, "0", "1"))
SET_BY_FIRST = (3, ("010", "011", "101", "111"))


@lru_cache(maxsize=None)
def trees_over(bits):
    """All trees that ask these bits, each at most once on a way."""
    trees = ["0", "1"]
    for bit in bits:
        below = trees_over(tuple(other for other in bits if other != bit))
        trees.extend((bit, zero, one) for zero in below for one in below)
    return trees


def all_trees(bits):
    return trees_over(tuple(range(bits)))


def told_of(tree, corner):
    while isinstance(tree, tuple):
        tree = tree[1 + int(corner[tree[0]])]
    return tree


def set_told(tree, bits):
    return bits, tuple(corner for corner in all_corners(bits) if told_of(tree, corner) == "1")


def depth_of(tree):
    return 1 + max(depth_of(tree[1]), depth_of(tree[2])) if isinstance(tree, tuple) else 0


def leaves_of(tree):
    return leaves_of(tree[1]) + leaves_of(tree[2]) if isinstance(tree, tuple) else 1


def faces_of(tree, face, wanted="01"):
    """The faces of the leaves that tell one of the wanted signs."""
    if not isinstance(tree, tuple):
        return [face] if tree in wanted else []
    bit = tree[0]
    found = []
    for sign in "01":
        found.extend(faces_of(tree[1 + int(sign)], face[:bit] + sign + face[bit + 1:], wanted))
    return found


@lru_cache(maxsize=None)
def least_of_all_trees(bits):
    """For each set that some tree tells its least depth and its fewest leaves, out of all trees."""
    least = {}
    for tree in all_trees(bits):
        some = set_told(tree, bits)
        depth, leaves = least.get(some, (99, 99))
        least[some] = min(depth, depth_of(tree)), min(leaves, leaves_of(tree))
    return least


def slow_least(bits, corners, asked):
    """The least depth and the fewest leaves, each bit that is left asked first."""
    marks = {corner in corners for corner in all_corners(bits) if all(corner[at] == sign for at, sign in asked)}
    if len(marks) == 1:
        return 0, 1
    told = []
    for bit in range(bits):
        if bit not in [at for at, _ in asked]:
            told.append([slow_least(bits, corners, asked + [(bit, sign)]) for sign in "01"])
    return (
        1 + min(max(zero[0], one[0]) for zero, one in told),
        min(zero[1] + one[1] for zero, one in told),
    )


@lru_cache(maxsize=None)
def partings_by_trees(face):
    """All partings of the face, as sets of faces, that are the leaves of a tree."""
    told = {frozenset([face])}
    for bit, sign in enumerate(face):
        if sign == "*":
            zeros, ones = [partings_by_trees(face[:bit] + each + face[bit + 1:]) for each in "01"]
            told.update(zero | one for zero in zeros for one in ones)
    return told


def slow_comes(faces, asked=()):
    """Each bit that is left is tried as the one asked first."""
    if len(faces) == 1:
        return True
    for bit in range(len(faces[0])):
        parts = [[face for face in faces if face[bit] == sign] for sign in "01*"]
        if bit not in asked and not parts[2]:
            if all(slow_comes(part, asked + (bit,)) for part in parts[:2]):
                return True
    return False


def full_tree(some, bit=0, begun=""):
    """The tree that asks all bits on every way, the first bit first."""
    if bit == some[0]:
        return "1" if begun in some[1] else "0"
    return bit, full_tree(some, bit + 1, begun + "0"), full_tree(some, bit + 1, begun + "1")


def chain_tree(bits):
    """The right tree for the last corner alone that asks on as long as bits are 1."""
    tree = "1"
    for bit in reversed(range(bits)):
        tree = (bit, "0", tree)
    return tree


class LeastTest(unittest.TestCase):
    """Point 16: least depth and fewest leaves."""

    def check(self, some, pair):
        self.assertEqual((least_depth(some), fewest_leaves(some)), pair, some)
        self.assertIs(type(least_depth(some)), int)
        self.assertIs(type(fewest_leaves(some)), int)

    def test_no_corners_and_all(self):
        for bits in range(1, 5):
            self.check(NOTHING[bits], (0, 1))
            self.check(WHOLE[bits], (0, 1))

    def test_one_corner(self):
        for bits in range(1, 5):
            for corner in all_corners(bits):
                self.check((bits, (corner,)), (bits, bits + 1))

    def test_one_face(self):
        for bits in range(1, 5):
            for face in all_faces(bits):
                told = bits - face.count("*")
                self.check((bits, corners_in(face)), (told, told + 1))

    def test_odd_ones(self):
        for bits in range(1, 5):
            odd = tuple(corner for corner in all_corners(bits) if corner.count("1") % 2)
            self.check((bits, odd), (bits, 2 ** bits))

    def test_a_bit_that_says_which_bit_is_asked(self):
        self.check(SET_BY_FIRST, (2, 4))
        self.check(set_told((3, (1, "0", "1"), (0, "0", "1")), 4), (2, 4))

    def test_against_all_trees_of_up_to_three_bits(self):
        self.assertEqual(len(all_trees(3)), 16430)
        for bits in (1, 2, 3):
            least = least_of_all_trees(bits)
            self.assertEqual(len(least), 2 ** 2 ** bits)
            for some, pair in least.items():
                self.check(some, pair)

    def test_sets_of_four_bits(self):
        for some in some_sets(4, 331):
            self.check(some, slow_least(4, set(some[1]), []))

    def test_a_set_and_all_other_corners(self):
        for some in some_sets(4, 97):
            others = (4, tuple(corner for corner in all_corners(4) if corner not in some[1]))
            self.check(others, (least_depth(some), fewest_leaves(some)))


class RightTest(unittest.TestCase):
    """Point 16: the looker."""

    def wrong(self, some, tree):
        self.assertIs(is_right(some, tree), False, tree)

    def test_some(self):
        self.assertIs(is_right(SET_BY_FIRST, BY_FIRST), True)
        self.assertIs(is_right(HALF_SET, (0, "1", (1, "0", "1"))), True)
        self.assertIs(is_right(HALF_SET, (1, (0, "1", "0"), "1")), True)
        self.wrong(HALF_SET, (0, (1, "0", "1"), "1"))

    def test_all_trees_of_up_to_three_bits(self):
        for bits in (1, 2, 3):
            whole = WHOLE[bits][1]
            for number, tree in enumerate(all_trees(bits)):
                _, corners = set_told(tree, bits)
                self.assertIs(is_right((bits, corners), tree), True, tree)
                flipped = whole[number % len(whole)]
                other = tuple(corner for corner in whole if (corner in corners) != (corner == flipped))
                self.wrong((bits, other), tree)

    def test_each_small_tree_of_each_set(self):
        for bits in (1, 2):
            for some in all_sets(bits):
                for tree in all_trees(bits):
                    self.assertIs(is_right(some, tree), set_told(tree, bits) == some)

    def test_no_corners_and_all(self):
        for bits in range(1, 7):
            self.assertIs(is_right(NOTHING[bits], "0"), True)
            self.assertIs(is_right(WHOLE[bits], "1"), True)
            self.wrong(NOTHING[bits], "1")
            self.wrong(WHOLE[bits], "0")
            for bit in range(bits):
                self.assertIs(is_right(NOTHING[bits], (bit, "0", "0")), True)
                self.assertIs(is_right(WHOLE[bits], (bit, "1", "1")), True)
                self.wrong(NOTHING[bits], (bit, "0", "1"))
                self.wrong(WHOLE[bits], (bit, "0", "1"))

    def test_the_tree_for_nought_comes_first(self):
        for bits in range(1, 7):
            for bit in range(bits):
                some = (bits, corners_in("*" * bit + "1" + "*" * (bits - bit - 1)))
                self.assertIs(is_right(some, (bit, "0", "1")), True)
                self.wrong(some, (bit, "1", "0"))

    def test_five_and_six_bits(self):
        for bits in (5, 6):
            last = (bits, ("1" * bits,))
            self.assertIs(is_right(last, chain_tree(bits)), True)
            self.wrong((bits, ("0" * bits,)), chain_tree(bits))
            self.wrong((bits, ()), chain_tree(bits))
            for step in (3, 7, 11):
                some = (bits, WHOLE[bits][1][1::step])
                self.assertIs(is_right(some, full_tree(some)), True)
                for at in range(0, len(some[1]), 3):
                    self.wrong((bits, some[1][:at] + some[1][at + 1:]), full_tree(some))

    def test_a_bit_twice_on_a_way(self):
        one = (2, ("10", "11"))
        self.assertIs(is_right(one, (0, "0", "1")), True)
        for tree in (
            (0, (0, "0", "0"), "1"), (0, (0, "0", "1"), "1"), (0, "0", (0, "0", "1")), (0, "0", (0, "1", "1")),
            (0, "0", (1, "1", (0, "0", "1"))), (0, (1, "0", (0, "0", "0")), "1"), (1, (1, "0", "0"), (0, "0", "1")),
        ):
            self.wrong(one, tree)
        for bits in range(1, 7):
            for bit in range(bits):
                self.wrong(NOTHING[bits], (bit, "0", (bit, "0", "0")))
                self.wrong(WHOLE[bits], (bit, (bit, "1", "1"), "1"))

    def test_the_same_bit_on_two_ways(self):
        for bits in range(2, 7):
            self.assertIs(is_right(NOTHING[bits], (0, (1, "0", "0"), (1, "0", "0"))), True)

    def test_a_bit_below_the_first_or_beyond_the_last(self):
        for bits in range(1, 7):
            for bit in (-1, -2, -bits, bits, bits + 1, 99, 10 ** 30, -10 ** 30):
                self.wrong(NOTHING[bits], (bit, "0", "0"))
                self.wrong(WHOLE[bits], (bit, "1", "1"))
                self.wrong(WHOLE[bits], (0, "1", (bit, "1", "1")))
                self.wrong(WHOLE[bits], (0, (bit, "1", "1"), "1"))

    def test_one_wrong_leaf(self):
        some = (6, WHOLE[6][1][::5])
        tree = full_tree(some)
        for corner in WHOLE[6][1]:
            self.wrong(some, full_tree((6, tuple(c for c in WHOLE[6][1] if (c in some[1]) != (c == corner)))))
        self.assertIs(is_right(some, tree), True)

    def test_texts(self):
        for some in (NOTHING[1], WHOLE[1], HALF_SET, WHOLE[6]):
            for text in ("", "2", "00", "11", "01", "*", " 0", "1 ", "0\n", "-1", "O", "none", "1" * 700):
                self.wrong(some, text)
                self.wrong(some, (0, text, text))
                self.wrong(some, (0, "1", text))
                self.wrong(some, (0, text, "1"))
                self.wrong(some, (text, "1", "1"))
        self.wrong(WHOLE[1], ("0", "1", "1"))

    def test_whole_numbers(self):
        for some in (NOTHING[1], WHOLE[1], HALF_SET, WHOLE[6]):
            for number in (0, 1, -1, 2, 10 ** 30):
                self.wrong(some, number)
                self.wrong(some, (0, number, number))
                self.wrong(some, (0, "1", number))
                self.wrong(some, (0, number, "0"))

    def test_tuples(self):
        for some in (NOTHING[1], WHOLE[1], HALF_SET, WHOLE[6]):
            for tree in (
                (), (0,), ("1",), (0, "1"), ("1", "1"), (0, "1", "1", "1"), (0, 0, "1", "1"), ((), "1", "1"),
                ((0,), "1", "1"), ((0, "1", "1"), "1", "1"), ("1", "1", 0), ("1", 0, "1"), (0, 0, 0), (0, (), "1"),
                (0, "1", ()), (0, ("1",), ("1",)), (0, "0", ("0",)), (((),),), tuple("1" * 80), (0,) * 80,
            ):
                self.wrong(some, tree)

    def test_up_to_twenty_within_one_another(self):
        for bits in range(1, 7):
            ones = (bits, ("1" * bits,))
            for most in range(bits + 1, 21):
                tree = nest = "1"
                pairs = "0"
                for level in reversed(range(most)):
                    tree = (level % bits, "0", tree)
                    nest = (nest,)
                    pairs = (0, pairs, pairs)
                self.wrong(ones, tree)
                self.wrong(ones, nest)
                self.wrong(NOTHING[bits], pairs)
                self.wrong(NOTHING[bits], (nest, "0", "0"))
            self.assertIs(is_right(ones, chain_tree(bits)), True)


class PartingByTest(unittest.TestCase):
    """Point 17: the parting that a right tree gives."""

    def check(self, some, tree, faces):
        told = parting_by(some, tree)
        self.assertEqual(told, faces, tree)
        self.assertIs(type(told), tuple)

    def refused(self, some, tree):
        with self.assertRaises(NoParting) as caught:
            parting_by(some, tree)
        check_refusal(self, caught.exception)

    def test_some(self):
        self.check(SET_BY_FIRST, BY_FIRST, ("01*", "1*1"))
        self.check(HALF_SET, (0, "1", (1, "0", "1")), ("0*", "11"))
        self.check(HALF_SET, (1, (0, "1", "0"), "1"), ("00", "*1"))

    def test_they_are_told_in_order(self):
        # As the leaves stand it is *1 first.
        self.check((2, ("01", "10", "11")), (1, (0, "0", "1"), "1"), ("10", "*1"))
        self.check(WHOLE[3], (2, (1, "1", "1"), (0, "1", "1")), ("0*1", "1*1", "*00", "*10"))

    def test_no_corners_and_all(self):
        for bits in range(1, 7):
            self.check(NOTHING[bits], "0", ())
            self.check(NOTHING[bits], (0, "0", "0"), ())
            self.check(WHOLE[bits], "1", ("*" * bits,))
            for bit, faces in enumerate(halves(bits)):
                self.check(WHOLE[bits], (bit, "1", "1"), faces)

    def test_all_trees_of_up_to_three_bits(self):
        for bits in (1, 2, 3):
            for tree in all_trees(bits):
                some = set_told(tree, bits)
                self.check(some, tree, in_order(faces_of(tree, "*" * bits, "1")))

    def test_five_and_six_bits(self):
        for bits in (5, 6):
            self.check((bits, ("1" * bits,)), chain_tree(bits), ("1" * bits,))
            some = (bits, WHOLE[bits][1][2::3])
            self.check(some, full_tree(some), some[1])
            others = (bits, tuple(corner for corner in WHOLE[bits][1] if corner != "1" * bits))
            tree = "0"
            for bit in range(bits):
                tree = (bit, "1", tree)
            self.check(others, tree, in_order("*" * at + "0" + "1" * (bits - at - 1) for at in range(bits)))

    def test_trees_that_are_not_right(self):
        for tree in (
            "0", "1", "", "2", 0, 1, (), ("0",), (0, "1"), (0, "0", "1"), (0, "1", "0"), (0, (1, "0", "1"), "1"),
            (0, "1", (0, "0", "1")), (2, "1", "1"), (-1, "1", (0, "0", "1")), (0, "1", (1, "0", "1"), "1"),
            (0, "1", (-1, "0", "1")), ("0", "1", (1, "0", "1")), (0, "1", (1, 0, 1)), (0, 1, (1, "0", "1")),
        ):
            self.refused(HALF_SET, tree)

    def test_a_tree_of_another_set(self):
        for bits in (1, 2):
            for some in all_sets(bits):
                for tree in all_trees(bits):
                    if set_told(tree, bits) != some:
                        self.refused(some, tree)
        for bits in range(1, 7):
            self.refused(WHOLE[bits], "0")
            self.refused(NOTHING[bits], "1")
            self.refused((bits, ("0" * bits,)), chain_tree(bits))

    def test_deep_ones(self):
        deep = "1"
        for _ in range(20):
            deep = (0, deep, deep)
        for bits in range(1, 7):
            self.refused(WHOLE[bits], deep)


class ComesByTreeTest(unittest.TestCase):
    """Point 17: whether a parting of the whole cube comes by some tree."""

    def refused(self, bits, faces):
        with self.assertRaises(NoParting) as caught:
            comes_by_tree(bits, faces)
        check_refusal(self, caught.exception)

    def test_the_whole_cube_halves_and_corners(self):
        for bits in range(1, 7):
            self.assertIs(comes_by_tree(bits, ("*" * bits,)), True)
            self.assertIs(comes_by_tree(bits, WHOLE[bits][1]), True)
            for faces in halves(bits):
                self.assertIs(comes_by_tree(bits, faces), True)

    def test_tight_ones_come_by_none(self):
        for bits, faces in TIGHT.items():
            self.assertIs(comes_by_tree(bits, faces), bits == 1)

    def test_all_leaves_of_all_trees(self):
        for bits in (1, 2, 3):
            given = {in_order(faces_of(tree, "*" * bits)) for tree in all_trees(bits)}
            self.assertEqual(given, {in_order(faces) for faces in partings_by_trees("*" * bits)})
            for faces in all_partings(bits):
                self.assertIs(comes_by_tree(bits, faces), faces in given, faces)
                self.assertIs(slow_comes(faces), faces in given, faces)

    def test_partings_of_four_bits(self):
        given = partings_by_trees("****")
        answers = []
        for faces in partings_of_whole(4)[::13]:
            answers.append(comes_by_tree(4, faces))
            self.assertIs(answers[-1], frozenset(faces) in given, faces)
            self.assertIs(slow_comes(faces), answers[-1], faces)
        self.assertGreater(answers.count(True), 1000)
        self.assertGreater(answers.count(False), 100)

    def test_one_face_of_a_tight_one_parted(self):
        for bits, faces in tight_with_a_face_parted():
            self.assertIs(comes_by_tree(bits, faces), slow_comes(faces), faces)
        # Here the parted face was the only one that kept the first bit from being asked first.
        self.assertIs(comes_by_tree(3, ("000", "001", "01*", "101", "111", "1*0")), True)
        still_none = ("0000", "0001", "01**", "1001", "1101", "111*", "1*00", "*01*")
        self.assertIs(comes_by_tree(4, still_none), False)

    def test_a_tight_one_in_one_half(self):
        for bits, tight in TIGHT.items():
            if bits in (3, 4, 5):
                for at in range(bits + 1):
                    # Asked is this bit first, and then a half that no tree parts so.
                    half = [face[:at] + "0" + face[at:] for face in tight]
                    wide = "*" * at + "1" + "*" * (bits - at)
                    self.assertIs(comes_by_tree(bits + 1, in_order(half + [wide])), False)
                    other = [face[:at] + "1" + face[at:] for face in all_corners(bits)]
                    self.assertIs(comes_by_tree(bits + 1, in_order(half + other)), False)

    def test_partings_of_five_and_six_bits(self):
        by_tree = sorted(in_order(faces) for faces in partings_by_trees("****"))[::1201]
        for number, faces in enumerate(by_tree):
            other = by_tree[number * 7 % len(by_tree)]
            for at in range(5):
                both = [face[:at] + "0" + face[at:] for face in faces] + [face[:at] + "1" + face[at:] for face in other]
                self.assertIs(comes_by_tree(5, in_order(both)), True)
                six = [face + "1" for face in both] + ["*****0"]
                self.assertIs(comes_by_tree(6, in_order(six)), True)

    def test_nothing_at_all(self):
        for bits in range(1, 7):
            self.refused(bits, ())

    def test_faces_that_do_not_part_the_whole_cube(self):
        self.refused(2, ("0*", "*1"))
        self.refused(2, ("0*", "1*", "*1"))
        self.refused(2, ("00", "01", "10"))
        for bits, faces in TIGHT.items():
            for at in range(len(faces)):
                self.refused(bits, faces[:at] + faces[at + 1:])
                self.refused(bits, faces[:at] + faces[at:at + 1] + faces[at:])

    def test_out_of_order(self):
        for other in other_orders(TIGHT[3]):
            self.refused(3, other)
        self.refused(1, ("1", "0"))
        self.refused(6, WHOLE[6][1][::-1])

    def test_of_other_lengths_and_signs(self):
        for bits in range(1, 7):
            self.refused(bits, ("*" * (bits + 1),))
            self.refused(bits, ("*" * (bits - 1),))
        for text in ODD_TEXTS:
            self.refused(2, (text,))
            self.refused(2, ("0*", "1*", text))
        self.refused(6, ("******",) * 80)


class AgainTest(unittest.TestCase):
    """Point 2: the same asked again is answered the same, also behind refusals and others."""

    def test_again_and_behind_others(self):
        sets = [HALF_SET, SET_BY_FIRST, NOTHING[4], WHOLE[4], (4, ("0000", "1111"))]
        partings = [(3, TIGHT[3]), (2, ("0*", "1*")), (6, TIGHT[6])]
        trees = [(SET_BY_FIRST, BY_FIRST), (WHOLE[2], "1"), (HALF_SET, (0, "1", (1, "0", "1")))]

        def told():
            return [
                [(least_depth(some), fewest_leaves(some)) for some in sets],
                [comes_by_tree(*each) for each in partings],
                [(is_right(*each), parting_by(*each)) for each in trees],
            ]

        first = told()
        with self.assertRaises(NoParting):
            parting_by(HALF_SET, "1")
        with self.assertRaises(NoParting):
            comes_by_tree(3, ("000",))
        self.assertEqual(told(), first)

    def test_what_is_told_may_be_handed_on(self):
        self.assertIs(is_parting(SET_BY_FIRST, parting_by(SET_BY_FIRST, BY_FIRST)), True)
        self.assertIs(comes_by_tree(2, parting_by(WHOLE[2], (0, "1", (1, "1", "1")))), True)


if __name__ == "__main__":
    unittest.main()
