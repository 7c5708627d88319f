"""Partings of a small set into faces of one size."""

from facesparted.faces.steps import cube_faces, least_among


def least_of_size(some, stars):
    """The triple of least_among for faces with just so many stars; or None."""
    return least_among(some, [face for face in cube_faces(some[0]) if face.count("*") == stars])


def parting_of_size(some, stars):
    """The first parting of the set into faces with just so many stars, or None."""
    least = least_of_size(some, stars)
    return None if least is None else least[2]


def count_of_size(some, stars):
    """How many partings the set has into faces with just so many stars."""
    # Faces of one size are as many in every parting of a set, so all partings are among the fewest.
    least = least_of_size(some, stars)
    return 0 if least is None else least[1]
