"""Slow second answers, straight from the words of the document, that the tests compare with; and what they share."""

from functools import lru_cache
from itertools import combinations, permutations, product

from facesparted.errors import FaceError, NoAsk, NoCorner, NoParting, NoSet

HALF_SET = (2, ("00", "01", "11"))
ODD_TEXTS = (
    "", "0", "000", "0*2", "2*", "0 ", " 0", "**\n", "a" * 700, "**********", "~~", "0\n", "-1", "0*0*",
    "*" * 700, "0" * 700,
)


def all_corners(bits):
    return ["".join(signs) for signs in product("01", repeat=bits)]


WHOLE = {bits: (bits, tuple(all_corners(bits))) for bits in range(1, 7)}
NOTHING = {bits: (bits, ()) for bits in range(1, 7)}


def all_faces(bits):
    """In the document's order: product goes on as its signs stand."""
    return ["".join(signs) for signs in product("01*", repeat=bits)]


def place_of(face):
    """Places of faces stand as the faces do: as all_faces has them."""
    return ["01*".index(sign) for sign in face]


@lru_cache(maxsize=None)
def corners_in(face):
    """Each corner of the cube is looked at."""
    return tuple(
        corner
        for corner in all_corners(len(face))
        if all(sign in ("*", bit) for sign, bit in zip(face, corner))
    )


def face_of(corners, bits):
    """The face that has just these corners, or None: no face but the least one around them can be it."""
    signs = ["".join(sorted(set(corner[at] for corner in corners))) for at in range(bits)]
    face = "".join(sign if len(sign) == 1 else "*" for sign in signs)
    return face if set(corners_in(face)) == set(corners) else None


def all_sets(bits):
    whole = all_corners(bits)
    for size in range(len(whole) + 1):
        for corners in combinations(whole, size):
            yield bits, corners


def partings_of(some):
    """All partings of the set, each in the document's order."""
    bits, corners = some
    order = [(face, frozenset(corners_in(face))) for face in all_faces(bits)]

    def parts(left):
        if not left:
            yield ()
            return
        first, rest = left[0], set(left)
        for face, own in order:
            if first in own and own <= rest:
                for more in parts([corner for corner in left if corner not in own]):
                    yield (face,) + more

    return [tuple(sorted(faces, key=place_of)) for faces in parts(list(corners))]


@lru_cache(maxsize=None)
def partings_of_whole(bits):
    """Kept, since the tens of thousands of four bits take a while."""
    return tuple(partings_of(WHOLE[bits]))


def first_of(rows):
    """The first of the partings, as tuples of faces."""
    return min(rows, key=lambda faces: [place_of(face) for face in faces])


def some_sets(bits, step):
    """Each so manyth set of the cube, as their rows of 0 and 1 count up, with none and all corners among them."""
    whole = all_corners(bits)
    last = 2 ** len(whole) - 1
    for number in [*range(0, last, step), last]:
        yield bits, tuple(corner for at, corner in enumerate(whole) if number >> at & 1)


def other_orders(faces):
    return [other for other in permutations(faces) if other != tuple(faces)]


def check_refusal(case, told):
    case.assertIs(type(told), NoParting)
    case.assertIsInstance(told, FaceError)
    case.assertIsInstance(told, ValueError)
    case.assertNotIsInstance(told, (NoSet, NoAsk, NoCorner))
    case.assertIs(type(str(told)), str)
