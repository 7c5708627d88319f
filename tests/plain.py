"""Slow second answers, straight from the words of the document, that the tests compare with."""

from itertools import combinations, permutations, product

HALF_SET = (2, ("00", "01", "11"))


def all_corners(bits):
    return ["".join(signs) for signs in product("01", repeat=bits)]


def all_faces(bits):
    """In the document's order: product goes on as its signs stand."""
    return ["".join(signs) for signs in product("01*", repeat=bits)]


def corners_in(face):
    """Each corner of the cube is looked at."""
    return tuple(
        corner
        for corner in all_corners(len(face))
        if all(sign in ("*", bit) for sign, bit in zip(face, corner))
    )


def face_of(corners, bits):
    """The face that has just these corners, or None: no face but the least one around them can be it."""
    signs = ["".join(sorted(set(corner[at] for corner in corners))) for at in range(bits)]
    face = "".join(sign if len(sign) == 1 else "*" for sign in signs)
    return face if set(corners_in(face)) == set(corners) else None


def all_sets(bits):
    whole = all_corners(bits)
    for size in range(len(whole) + 1):
        for corners in combinations(whole, size):
            yield bits, corners


def partings_of(some):
    """All partings of the set, each in the document's order."""
    bits, corners = some
    order = all_faces(bits)

    def parts(left):
        if not left:
            yield ()
            return
        for face in order:
            own = set(corners_in(face))
            if left[0] in own and own <= set(left):
                for rest in parts([corner for corner in left if corner not in own]):
                    yield (face,) + rest

    return [tuple(sorted(faces, key=order.index)) for faces in parts(list(corners))]


def other_orders(faces):
    return [other for other in permutations(faces) if other != tuple(faces)]
