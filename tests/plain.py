"""Slow second answers, straight from the words of the document, that the tests compare with; and what they share."""

from functools import lru_cache
from itertools import combinations, permutations, product

from facesparted.errors import FaceError, NoAsk, NoCorner, NoParting, NoSet

HALF_SET = (2, ("00", "01", "11"))
ODD_TEXTS = (
    "", "0", "000", "0*2", "2*", "0 ", " 0", "**\n", "a" * 700, "**********", "~~", "0\n", "-1", "0*0*",
    "*" * 700, "0" * 700,
)
TIGHT = {
    1: ("0", "1"),
    3: ("000", "01*", "111", "1*0", "*01"),
    4: ("0000", "01**", "1101", "111*", "1*00", "*001", "*01*"),
    5: ("00000", "000*1", "01***", "10011", "1101*", "111**", "1*00*", "*0010", "*01**"),
    6: (
        "000000", "000*1*", "010011", "0101*1", "011**1", "01***0", "0*0001", "10011*", "1101**", "111***", "1*00**",
        "*0010*", "*01***",
    ),
}


def all_corners(bits):
    return ["".join(signs) for signs in product("01", repeat=bits)]


WHOLE = {bits: (bits, tuple(all_corners(bits))) for bits in range(1, 7)}
NOTHING = {bits: (bits, ()) for bits in range(1, 7)}


def all_faces(bits):
    """In the document's order: product goes on as its signs stand."""
    return ["".join(signs) for signs in product("01*", repeat=bits)]


def place_of(face):
    """Places of faces stand as the faces do: as all_faces has them."""
    return ["01*".index(sign) for sign in face]


@lru_cache(maxsize=None)
def corners_in(face):
    """Each corner of the cube is looked at."""
    return tuple(
        corner
        for corner in all_corners(len(face))
        if all(sign in ("*", bit) for sign, bit in zip(face, corner))
    )


def face_of(corners, bits):
    """The face that has just these corners, or None: no face but the least one around them can be it."""
    signs = ["".join(sorted(set(corner[at] for corner in corners))) for at in range(bits)]
    face = "".join(sign if len(sign) == 1 else "*" for sign in signs)
    return face if set(corners_in(face)) == set(corners) else None


def all_sets(bits):
    whole = all_corners(bits)
    for size in range(len(whole) + 1):
        for corners in combinations(whole, size):
            yield bits, corners


def partings_of(some):
    """All partings of the set, each in the document's order."""
    bits, corners = some
    order = [(face, frozenset(corners_in(face))) for face in all_faces(bits)]

    def parts(left):
        if not left:
            yield ()
            return
        first, rest = left[0], set(left)
        for face, own in order:
            if first in own and own <= rest:
                for more in parts([corner for corner in left if corner not in own]):
                    yield (face,) + more

    return [tuple(sorted(faces, key=place_of)) for faces in parts(list(corners))]


@lru_cache(maxsize=None)
def partings_of_whole(bits):
    """Kept, since the tens of thousands of four bits take a while."""
    return tuple(partings_of(WHOLE[bits]))


def first_of(rows):
    """The first of the partings, as tuples of faces."""
    return min(rows, key=lambda faces: [place_of(face) for face in faces])


def some_sets(bits, step):
    """Each so manyth set of the cube, as their rows of 0 and 1 count up, with none and all corners among them."""
    whole = all_corners(bits)
    last = 2 ** len(whole) - 1
    for number in [*range(0, last, step), last]:
        yield bits, tuple(corner for at, corner in enumerate(whole) if number >> at & 1)


def in_order(faces):
    return tuple(sorted(faces, key=place_of))


def halves(bits):
    """The two halves of the cube by each bit."""
    for at in range(bits):
        yield tuple("*" * at + sign + "*" * (bits - at - 1) for sign in "01")


def tight_with_a_face_parted():
    """Each tight parting with one of its faces in two halves: pairs (bits, faces)."""
    for bits, tight in TIGHT.items():
        for face in tight:
            for at, sign in enumerate(face):
                if sign == "*":
                    both = [face[:at] + bit + face[at + 1:] for bit in "01"]
                    yield bits, in_order([other for other in tight if other != face] + both)


def other_orders(faces):
    return [other for other in permutations(faces) if other != tuple(faces)]


def check_refusal(case, told, kind=NoParting):
    case.assertIs(type(told), kind)
    case.assertIsInstance(told, FaceError)
    case.assertIsInstance(told, ValueError)
    others = tuple(other for other in (NoParting, NoAsk, NoSet, NoCorner) if other is not kind)
    case.assertNotIsInstance(told, others)
    case.assertIs(type(str(told)), str)


class SlowKept:
    """Kept faces as sets of corners."""

    def __init__(self, bits):
        self.bits = bits
        self.sets = [frozenset(all_corners(bits))]

    def faces(self):
        return in_order(face_of(own, self.bits) for own in self.sets)

    def corners(self):
        return tuple(sorted(corner for own in self.sets for corner in own))

    def do(self, deed, corner):
        if deed == "go":
            self.go(corner)
        else:
            self.come(corner)

    def go(self, corner):
        going = next(own for own in self.sets if corner in own)
        self.sets.remove(going)
        for bit in range(self.bits):
            staying = frozenset(other for other in going if other[bit] != corner[bit])
            if staying:
                self.sets.append(staying)
                going = going - staying

    def come(self, corner):
        newest = frozenset([corner])
        while True:
            self.sets.sort(key=lambda own: place_of(face_of(own, self.bits)))
            partners = [own for own in self.sets if face_of(newest | own, self.bits)]
            if not partners:
                break
            self.sets.remove(partners[0])
            newest = newest | partners[0]
        self.sets.append(newest)


def stirred(bits, step):
    """All corners, each once, out of order: step is odd."""
    whole = all_corners(bits)
    return [whole[(3 + number * step) % len(whole)] for number in range(len(whole))]
