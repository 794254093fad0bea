"""The errors of the package, each with the fields that tell what was wrong."""


class GradeError(ValueError):
    """What every error of this package is."""


class InvalidDegree(GradeError):
    """Something that should be a degree, or make one, and does not."""

    def __init__(self, thing):
        self.thing = thing


class InvalidName(GradeError):
    """Something that should be one of the letters a to z."""

    def __init__(self, thing):
        self.thing = thing


class InvalidSaying(GradeError):
    """Something that should be a saying."""

    def __init__(self, thing):
        self.thing = thing


class TooLarge(GradeError):
    """A saying that would have more nodes than a saying may have."""

    def __init__(self, size):
        self.size = size


class InvalidText(GradeError):
    """A text that cannot be read, and the place where it cannot go on."""

    def __init__(self, at):
        self.at = at


class InvalidPieces(GradeError):
    """Pieces of a joining that are no list, or one of them that is no piece."""

    def __init__(self, place):
        self.place = place


class Overlap(GradeError):
    """Two pieces of a joining that share more than an end."""

    def __init__(self, first, second):
        self.first = first
        self.second = second


class InvalidJoining(GradeError):
    """Something that should be a joining."""

    def __init__(self, thing):
        self.thing = thing


class InvalidDegrees(GradeError):
    """Something that should be a dict of degrees for letters."""

    def __init__(self, thing):
        self.thing = thing


class NoDegree(GradeError):
    """A name that has no degree where it needs one."""

    def __init__(self, name):
        self.name = name


class InvalidShape(GradeError):
    """Something that should be a shape of joinings."""

    def __init__(self, thing):
        self.thing = thing


class InvalidFacts(GradeError):
    """Facts that are no list, or one of them that is no saying."""

    def __init__(self, place):
        self.place = place


class InvalidSayings(GradeError):
    """Sayings that are no list, or one of them that is no saying."""

    def __init__(self, place):
        self.place = place


class Clash(GradeError):
    """Facts that do not hold together."""


class NoFact(GradeError):
    """A number that no fact of a book has."""

    def __init__(self, number):
        self.number = number


class InvalidBook(GradeError):
    """Something that should be a book."""

    def __init__(self, thing):
        self.thing = thing
