"""The refusals of the program."""


class FaceError(ValueError):
    """Any refusal."""


class NoParting(FaceError):
    """Told of faces that are no parting; made of a text."""


class NoAsk(FaceError):
    """Told of a line that asks nothing the desk knows; made of a text."""


class NoSet(FaceError):
    """Told of a text that is no set; place is its first wrong sign, or its length."""

    def __init__(self, place):
        FaceError.__init__(self, f"no set of corners, at {place}")
        self.place = place


class NoCorner(FaceError):
    """Told of a corner that is not there, or is there already, or is none."""

    def __init__(self, corner):
        FaceError.__init__(self, f"not such a corner: {corner}")
        self.corner = corner
