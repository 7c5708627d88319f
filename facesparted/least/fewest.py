"""The partings of a small set: the fewest faces, counts by faces, and all of them."""

from facesparted.faces.steps import as_number, cube_faces, least_among, steps_among, steps_from, whole_cube


def fewest_faces(some):
    """The fewest faces of all partings of the set, how many partings have so few, and the first of these."""
    return least_among(some, cube_faces(some[0]))


def counts_left(left, steps, known):
    """How many partings what is left has, by how many faces: rows all as long as that of nothing left."""
    if left not in known:
        rows = []
        for rest, _ in steps_from(left, steps):
            rows.append(counts_left(rest, steps, known))
        # Each step adds a face. The last count of what a step leaves is 0: its corners are too few for it.
        known[left] = [0] + [sum(counts) for counts in zip(*rows)][:-1]
    return known[left]


def counts_by_faces(some):
    """How many partings the set has by how many faces, from none to as many as corners."""
    bits, corners = some
    nothing_left = {0: [1] + [0] * len(corners)}
    return tuple(counts_left(as_number(corners), steps_among(cube_faces(bits)), nothing_left))


def ways_left(left, steps):
    """All partings of what is left, each a tuple of places as the steps took them."""
    if left == 0:
        return [()]
    return [(place,) + way for rest, place in steps_from(left, steps) for way in ways_left(rest, steps)]


def all_partings(bits):
    """All partings of the whole cube, in order."""
    faces = cube_faces(bits)
    ways = ways_left(as_number(whole_cube(bits)[1]), steps_among(faces))
    in_order = sorted([tuple(sorted(way)) for way in ways])
    return [tuple([faces[place] for place in way]) for way in in_order]
