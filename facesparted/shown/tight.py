"""Tight partings of the whole cube."""

from facesparted.faces.partings import check_parting
from facesparted.faces.steps import cube_faces, whole_cube
from facesparted.faces.texts import common_face, how_many
from facesparted.least.fewest import all_partings


def cuts_none(wide, faces):
    """Whether each of the faces lies in the wide one or does not meet it."""
    for face in faces:
        if common_face(wide, face) not in (None, face):
            return False
    return True


def first_made_up(bits, faces):
    """What made_up tells of a parting of the whole cube."""
    for wide in cube_faces(bits):
        # The parting has all corners of any face: so what it does not cut, it makes up, of several if not of one.
        if wide not in faces and wide != "*" * bits and cuts_none(wide, faces):
            return wide
    return None


def tells_each_bit(faces):
    """Whether each bit is told by some face."""
    for signs in zip(*faces):
        if signs.count("*") == len(faces):
            return False
    return True


def holds_tight(bits, faces):
    """What is_tight tells of a parting of the whole cube."""
    return len(faces) >= 2 and tells_each_bit(faces) and first_made_up(bits, faces) is None


def is_tight(bits, faces):
    """Whether the parting of the whole cube is tight, or NoParting."""
    check_parting(whole_cube(bits), faces, "the tuple of faces")
    return holds_tight(bits, faces)


def made_up(bits, faces):
    """The first face that is made up of several of the parting's, but not of all; None; or NoParting."""
    check_parting(whole_cube(bits), faces, "the tuple of faces")
    return first_made_up(bits, faces)


def count_tight(bits):
    """How many tight partings the whole cube has by how many faces, from none to as many as corners."""
    counts = [0] * (how_many("*" * bits) + 1)
    for faces in all_partings(bits):
        if holds_tight(bits, faces):
            counts[len(faces)] += 1
    return tuple(counts)
