"""Covers of a small set: faces that lie in it, meet or not, and have together all its corners."""

from facesparted.faces.partings import lies_in_one
from facesparted.faces.steps import as_number, cube_faces, face_number


def faces_in(some):
    """All faces that lie in the set, in order."""
    bits, corners = some
    whole = as_number(corners)
    return [face for face in cube_faces(bits) if face_number(face) | whole == whole]


def greatest_faces(some):
    """The faces that lie in the set and in no other such face, in order."""
    faces = faces_in(some)
    return tuple([face for face in faces if not lies_in_one(face, [other for other in faces if other != face])])


def without(left, number):
    """What is left when the corners of the face with that number are there."""
    return left - (left & number)


def fewest_left(left, numbers, known):
    """How few of the faces, told by their numbers, have together all corners that are left."""
    if left not in known:
        first = left & -left
        known[left] = 1 + min([fewest_left(without(left, one), numbers, known) for one in numbers if one & first])
    return known[left]


def fewest_cover(some):
    """The fewest faces of all covers of the set, and the first cover of so few."""
    # In a cover, any face can be made greatest: so the greatest ones tell how few there must be.
    numbers = [face_number(face) for face in greatest_faces(some)]
    known = {0: 0}
    left = as_number(some[1])
    cover = []
    # Once over the faces is enough: one that brings no fewest cover nearer now does not do so later.
    for face in faces_in(some):
        rest = without(left, face_number(face))
        if fewest_left(rest, numbers, known) < fewest_left(left, numbers, known):
            cover.append(face)
            left = rest
    return len(cover), tuple(cover)
