"""Faces that are kept while corners go and come."""

from facesparted.errors import NoCorner
from facesparted.faces.texts import corners_of, has_all, how_many, is_corner, joined, order_key


def faces_without(face, corner):
    """The faces that stay of the face when its corner goes."""
    stay = []
    for bit, sign in enumerate(face):
        if sign == "*":
            other = "1" if corner[bit] == "0" else "0"
            # Ahead of this bit what goes on is told as the corner is.
            stay.append(corner[:bit] + other + face[bit + 1:])
    return stay


def first_partner(newest, faces):
    """The first of the faces that makes a face with the newest, or None."""
    for face in faces:
        if joined(newest, face) is not None:
            return face
    return None


class KeptFaces:
    """A parting of the corners that are there: at first the whole cube in one face."""

    def __init__(self, bits):
        self.bits = bits
        self.faces = ["*" * bits]

    def face_at(self, corner):
        """The face that has the corner, or None; NoCorner where the text is no corner."""
        if not is_corner(corner, self.bits):
            raise NoCorner(corner)
        for face in self.faces:
            if has_all(face, corner):
                return face
        return None

    def go_corner(self, corner):
        """Part the corner's face till the corner alone goes, or NoCorner."""
        face = self.face_at(corner)
        if face is None:
            raise NoCorner(corner)
        others = [other for other in self.faces if other != face]
        self.faces = sorted(others + faces_without(face, corner), key=order_key)

    def come_corner(self, corner):
        """Put the corner in as the newest face, and make it one with others while it can be; or NoCorner."""
        if self.face_at(corner) is not None:
            raise NoCorner(corner)
        newest = corner
        others = list(self.faces)
        partner = first_partner(newest, others)
        while partner is not None:
            newest = joined(newest, partner)
            others.remove(partner)
            partner = first_partner(newest, others)
        self.faces = sorted(others + [newest], key=order_key)

    def faces_now(self):
        """The faces, in order."""
        return tuple(self.faces)

    def many_now(self):
        """How many corners are there."""
        return sum([how_many(face) for face in self.faces])

    def set_now(self):
        """The set of the corners that are there."""
        return self.bits, tuple(sorted([corner for face in self.faces for corner in corners_of(face)]))
