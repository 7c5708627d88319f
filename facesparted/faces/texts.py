"""Corners, faces and sets of corners, written as texts.

A set of corners is a pair (bits, corners), the corners a tuple in order.
"""

from facesparted.errors import NoSet

SET_LENGTHS = (2, 4, 8, 16, 32, 64)


def corners_of(face):
    """The corners of the face, in order."""
    begun = [""]
    for sign in face:
        choices = "01" if sign == "*" else sign
        begun = [start + choice for start in begun for choice in choices]
    return tuple(begun)


def how_many(face):
    """How many corners the face has."""
    return 1 << face.count("*")


def common_face(one, other):
    """The face of all corners that both faces have, or None if they do not meet."""
    signs = []
    for left, right in zip(one, other):
        if left == right or right == "*":
            signs.append(left)
        elif left == "*":
            signs.append(right)
        else:
            return None
    return "".join(signs)


def has_all(one, other):
    """Whether the first face has all corners of the second."""
    for wide, narrow in zip(one, other):
        if wide != "*" and wide != narrow:
            return False
    return True


def joined(one, other):
    """The face of just the corners of both, or None if they meet or there is none."""
    places = [place for place, (left, right) in enumerate(zip(one, other)) if left != right]
    # Two faces that do not meet fill a face only as its two halves by one bit.
    if len(places) != 1:
        return None
    at = places[0]
    if one[at] == "*" or other[at] == "*":
        return None
    return with_sign(one, at, "*")


def with_sign(face, place, sign):
    """The face with that sign at the place."""
    return face[:place] + sign + face[place + 1:]


def is_face(text, bits):
    """Whether the text is a face of so many bits."""
    if len(text) != bits:
        return False
    for sign in text:
        if sign not in "01*":
            return False
    return True


def is_corner(text, bits):
    """Whether the text is a corner of so many bits."""
    return is_face(text, bits) and "*" not in text


def order_key(face):
    """A text that stands among such texts as the face stands among faces."""
    # A star comes behind 0 and 1 among faces, but ahead of them among signs.
    return face.replace("*", "2")


def read_set(text):
    """The set of corners that the row of 0 and 1 is written for, or NoSet."""
    for place, sign in enumerate(text):
        if sign != "0" and sign != "1":
            raise NoSet(place)
    length = len(text)
    if length not in SET_LENGTHS:
        raise NoSet(length)
    bits = length.bit_length() - 1
    whole = corners_of("*" * bits)
    return bits, tuple([corner for corner, mark in zip(whole, text) if mark == "1"])


def set_shown(some):
    """The row of 0 and 1 that the set of corners is written as."""
    bits, corners = some
    return "".join(["1" if corner in corners else "0" for corner in corners_of("*" * bits)])
