"""Going through the partings of a set: each step takes a face that has the first corner left.

So each parting comes just once. The corners left are one number, in which the corner whose
text is k in base two has the bit k. A face is known by its place in a list of faces in order.
"""

from facesparted.faces.texts import corners_of


def whole_cube(bits):
    """The set of all corners of the cube."""
    return bits, corners_of("*" * bits)


def cube_faces(bits):
    """All faces of the cube, in order."""
    begun = [""]
    for _ in range(bits):
        begun = [start + sign for start in begun for sign in "01*"]
    return begun


def as_number(corners):
    """The corners as one number, with a bit for each of them."""
    return sum([1 << int(corner, 2) for corner in corners])


def face_number(face):
    """The corners of the face as one number."""
    return as_number(corners_of(face))


def steps_among(faces):
    """The faces as pairs (number, place), by the bit of the first corner of each."""
    steps = {}
    for place, face in enumerate(faces):
        number = face_number(face)
        steps.setdefault(number & -number, []).append((number, place))
    return steps


def steps_from(left, steps):
    """Each face that can take the first corner left: pairs (what it leaves, its place)."""
    return [(left - number, place) for number, place in steps.get(left & -left, ()) if number | left == left]


def with_face(least, place):
    """The triple of least_left, with the face of that place put to every parting in it."""
    if least is None:
        return None
    fewest, many, first = least
    # Partings of the same corners keep their order when each gets the same face: first stays first.
    return fewest + 1, many, tuple(sorted(first + (place,)))


def least_of_both(one, other):
    """The triple of least_left for all partings that either triple is told of."""
    if one is None:
        return other
    if other is None:
        return one
    if one[0] != other[0]:
        return min(one, other)
    return one[0], one[1] + other[1], min(one[2], other[2])


def least_left(left, steps, known):
    """The fewest faces that part what is left, how many partings so few, and the places of the first; or None."""
    if left not in known:
        least = None
        for rest, place in steps_from(left, steps):
            least = least_of_both(least, with_face(least_left(rest, steps, known), place))
        known[left] = least
    return known[left]


def least_among(some, faces):
    """Of the partings of the set into some of the faces: fewest faces, how many so few, the first; or None."""
    nothing_left = {0: (0, 1, ())}
    least = least_left(as_number(some[1]), steps_among(faces), nothing_left)
    if least is None:
        return None
    fewest, many, first = least
    return fewest, many, tuple([faces[place] for place in first])
