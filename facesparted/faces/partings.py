"""Partings of a set of corners into faces that do not meet."""

from facesparted.errors import NoParting
from facesparted.faces.texts import corners_of, has_all, is_face, order_key


def is_parting(some, faces):
    """Whether the tuple of texts is a parting of the set."""
    bits, corners = some
    if not all_faces(faces, bits) or not in_order(faces):
        return False
    told = []
    for face in faces:
        told.extend(corners_of(face))
    # Faces that meet tell a corner twice, which the set never does.
    return sorted(told) == list(corners)


def all_faces(texts, bits):
    """Whether each of the texts is a face of so many bits."""
    for text in texts:
        if not is_face(text, bits):
            return False
    return True


def in_order(faces):
    """Whether each face stands behind the one ahead of it."""
    for ahead, behind in zip(faces, faces[1:]):
        if order_key(ahead) >= order_key(behind):
            return False
    return True


def check_parting(some, faces, name):
    """Refuse with NoParting, under the name, what is no parting of the set."""
    if not is_parting(some, faces):
        raise NoParting(f"{name} is no parting of the set")


def sizes_of(some, faces):
    """How many faces of the parting have no star, one, two and so on, or NoParting."""
    check_parting(some, faces, "the tuple of faces")
    sizes = [0] * (some[0] + 1)
    for face in faces:
        sizes[face.count("*")] += 1
    return tuple(sizes)


def lies_in_one(face, faces):
    """Whether the face lies in one of the faces."""
    for wide in faces:
        if has_all(wide, face):
            return True
    return False


def is_finer(some, one, other):
    """Whether the first parting of the set is finer than the second, or NoParting."""
    check_parting(some, one, "the first tuple of faces")
    check_parting(some, other, "the second tuple of faces")
    for face in one:
        if not lies_in_one(face, other):
            return False
    return True
