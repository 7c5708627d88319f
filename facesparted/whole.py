"""The desk: kept faces that are asked by lines."""

from facesparted.errors import NoAsk
from facesparted.faces.partings import is_parting
from facesparted.faces.texts import set_shown
from facesparted.kept import KeptFaces
from facesparted.least.covers import fewest_cover
from facesparted.least.fewest import fewest_faces
from facesparted.least.onesize import parting_of_size
from facesparted.shown.odd import odd_counts

FIRST_BITS = 3
SMALL_BITS = 4
FIGURES = ("0", "1", "2", "3", "4", "5", "6")


def number_from(least, word):
    """The number that the word tells in figures, from the least one on, or NoAsk."""
    if word not in FIGURES[least:]:
        raise NoAsk(f"no number from {least} to {FIGURES[-1]}: {word}")
    return int(word)


def small_set(kept):
    """The set of the corners that are there, or NoAsk where it has too many bits."""
    if kept.bits > SMALL_BITS:
        raise NoAsk(f"this is asked of at most {SMALL_BITS} bits, not of {kept.bits}")
    return kept.set_now()


def in_one_row(parts):
    """The parts, parted by single blanks, as the only row."""
    return [" ".join([str(part) for part in parts])]


def row_if_any(faces):
    """The faces in one row, or no row of no faces."""
    return in_one_row(faces) if faces else []


def sized_row(some, stars):
    """The row of the first parting into faces with just so many stars."""
    parting = parting_of_size(some, stars)
    return ["none"] if parting is None else in_one_row(parting)


def parted_row(some, words):
    """The row that tells whether the words behind the blank are a parting of the set."""
    # Nothing behind the blank is split as one empty word, but means no faces.
    faces = () if words == [""] else tuple(words)
    return ["yes" if is_parting(some, faces) else "no"]


def rows_told(kept, words):
    """The rows that a line of these words is told of the kept faces, or NoAsk, or NoCorner."""
    match words:
        case ["faces"]:
            return row_if_any(kept.faces_now())
        case ["set"]:
            return [set_shown(kept.set_now())]
        case ["many"]:
            return [str(kept.many_now())]
        case ["at", corner]:
            return [kept.face_at(corner) or "none"]
        case ["fewest"]:
            return [str(fewest_faces(small_set(kept))[0])]
        case ["ways"]:
            return [str(fewest_faces(small_set(kept))[1])]
        case ["cover"]:
            return row_if_any(fewest_cover(small_set(kept))[1])
        case ["sized", figures]:
            return sized_row(small_set(kept), number_from(0, figures))
        case ["odd"]:
            return in_one_row(odd_counts(kept.set_now()))
        case ["parted", first, *more]:
            return parted_row(kept.set_now(), [first, *more])
        case _:
            raise NoAsk("no line that the desk knows: " + " ".join(words))


class Desk:
    """Kept faces, at first of three bits, and the lines that ask them."""

    def __init__(self):
        self.kept = KeptFaces(FIRST_BITS)

    def ask(self, line):
        """The rows that the line is told, none where it changes what is kept; or NoAsk, or NoCorner."""
        words = line.split(" ")
        match words:
            case ["bits", figures]:
                self.kept = KeptFaces(number_from(1, figures))
            case ["go", corner]:
                self.kept.go_corner(corner)
            case ["come", corner]:
                self.kept.come_corner(corner)
            case _:
                return rows_told(self.kept, words)
        return []
