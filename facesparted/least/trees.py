"""Trees of questions about the bits of a corner, and the partings that they give.

A tree is the text `0` or `1`, or a triple (bit, tree for 0, tree for 1). Each part of a tree is
asked about the corners of one face: those that the answers ahead of it have left.
"""

from facesparted.errors import NoParting
from facesparted.faces.partings import check_parting, is_parting
from facesparted.faces.steps import as_number, face_number, whole_cube
from facesparted.faces.texts import order_key, with_sign


def halves(face, bit):
    """The two halves of the face by a free bit, that for 0 first."""
    return with_sign(face, bit, "0"), with_sign(face, bit, "1")


def free_bits(face):
    """The bits that the face does not tell."""
    return [bit for bit, sign in enumerate(face) if sign == "*"]


def least_below(face, whole, known):
    """The least depth and the fewest leaves of trees that tell which of the face's corners are in the whole."""
    number = face_number(face)
    there = number & whole
    if there == 0 or there == number:
        return 0, 1
    if face not in known:
        below = [[least_below(half, whole, known) for half in halves(face, bit)] for bit in free_bits(face)]
        depths = [1 + max(zero[0], one[0]) for zero, one in below]
        leaves = [zero[1] + one[1] for zero, one in below]
        # One tree need not have both: each is the least on its own.
        known[face] = (min(depths), min(leaves))
    return known[face]


def least_depth(some):
    """How many questions the longest way of a right tree of the set has, at least."""
    return least_below("*" * some[0], as_number(some[1]), {})[0]


def fewest_leaves(some):
    """The fewest leaves of a right tree of the set."""
    return least_below("*" * some[0], as_number(some[1]), {})[1]


def asks_free_bit(tree, face):
    """Whether the tree is a triple that begins with a bit that the face does not tell."""
    if not isinstance(tree, tuple) or len(tree) != 3:
        return False
    bit = tree[0]
    return isinstance(bit, int) and not isinstance(bit, bool) and bit in free_bits(face)


def leaves_below(tree, face):
    """The leaves of the tree, asked about the face: pairs (face, text), or None where it is no tree."""
    if tree in ("0", "1"):
        return [(face, tree)]
    if not asks_free_bit(tree, face):
        return None
    leaves = []
    for branch, half in zip(tree[1:], halves(face, tree[0])):
        found = leaves_below(branch, half)
        if found is None:
            return None
        leaves.extend(found)
    return leaves


def faces_told(bits, tree):
    """The faces of the tree's leaves `1`, in order, or None where it is no tree for so many bits."""
    leaves = leaves_below(tree, "*" * bits)
    if leaves is None:
        return None
    return tuple(sorted([face for face, told in leaves if told == "1"], key=order_key))


def is_right(some, tree):
    """Whether it is a tree, and tells of each corner whether it is in the set."""
    faces = faces_told(some[0], tree)
    return faces is not None and is_parting(some, faces)


def parting_by(some, tree):
    """The parting of the set that the right tree gives, or NoParting."""
    if not is_right(some, tree):
        raise NoParting("the tree is not right for the set")
    return faces_told(some[0], tree)


def told_by_all(faces):
    """The first bit that all of the faces tell, but not all alike, or None."""
    for bit in range(len(faces[0])):
        if sorted({face[bit] for face in faces}) == ["0", "1"]:
            return bit
    return None


def are_leaves(faces):
    """Whether some tree, asked about the face that the faces part, has just these as its leaves."""
    if len(faces) == 1:
        return True
    # If any bit can be asked first, each one that all faces tell can be: one try is enough.
    bit = told_by_all(faces)
    if bit is None:
        return False
    zero = [face for face in faces if face[bit] == "0"]
    one = [face for face in faces if face[bit] == "1"]
    return are_leaves(zero) and are_leaves(one)


def comes_by_tree(bits, faces):
    """Whether some tree has all faces of the parting of the whole cube as its leaves, or NoParting."""
    check_parting(whole_cube(bits), faces, "the tuple of faces")
    return are_leaves(faces)
