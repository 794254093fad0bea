"""Joinings: what both and then come to, told by pieces that are sums or products."""

from gradetalk.checks import check_degrees, check_facts, check_saying
from gradetalk.degrees import check_degree, degree, is_degree, is_whole
from gradetalk.errors import InvalidPieces, InvalidShape, NoDegree, Overlap
from gradetalk.ratios import higher_of, is_below, lower_of, minus, over, plus, times

NOTHING = (0, 1)
WHOLE = (1, 1)


class Joining:
    """A rule for both, told by its pieces: tuples (low, high, kind), kind "sum" or "product"."""

    def __init__(self, pieces=()):
        _check_pieces(pieces)
        self.pieces = _ascending(pieces)
        self.shape = _shape_of(self.pieces)

    def both(self, x, y):
        """What both of two degrees comes to."""
        check_degree(x)
        check_degree(y)
        return _both(self.pieces, x, y)

    def then(self, x, y):
        """The greatest degree whose both with x is at most y."""
        check_degree(x)
        check_degree(y)
        return _then(self.pieces, x, y)

    def worth(self, saying, degrees):
        """The worth of a saying, with degrees for its names."""
        check_saying(saying)
        check_degrees(degrees)
        check_named([saying], degrees)
        worths = _worths(self.pieces, [saying], degrees)
        return worths[str(saying)]

    def is_break(self, saying, facts, degrees):
        """Whether, with degrees for the names, each fact has the worth 1 and the saying has not."""
        check_saying(saying)
        check_facts(facts)
        check_degrees(degrees)
        told = [saying, *facts]
        check_named(told, degrees)
        worths = _worths(self.pieces, told, degrees)
        for fact in facts:
            if worths[str(fact)] != WHOLE:
                return False
        return worths[str(saying)] != WHOLE

    def __eq__(self, other):
        return isinstance(other, Joining) and self.pieces == other.pieces


def sums(count):
    """The joining of count sums of equal width, side by side, from 0 to 1."""
    if not is_whole(count) or count < 1:
        raise InvalidShape(count)
    return Joining([(degree(at, count), degree(at + 1, count), "sum") for at in range(count)])


def _check_pieces(things):
    if not isinstance(things, (list, tuple)):
        raise InvalidPieces(None)
    for place, thing in enumerate(things):
        if not _is_piece(thing):
            raise InvalidPieces(place)
    for second in range(len(things)):
        for first in range(second):
            if _overlap(things[first], things[second]):
                raise Overlap(first, second)


def _is_piece(thing):
    if not isinstance(thing, tuple) or len(thing) != 3:
        return False
    low, high, kind = thing
    if not is_degree(low) or not is_degree(high) or not is_below(low, high):
        return False
    return isinstance(kind, str) and kind in ("sum", "product")


def _overlap(piece, other):
    return is_below(piece[0], other[1]) and is_below(other[0], piece[1])


def _ascending(pieces):
    """The tuple of pieces that do not overlap, from 0 up to 1."""
    rows = [None] * len(pieces)
    for piece in pieces:
        rows[len([1 for other in pieces if is_below(other[0], piece[0])])] = piece
    return tuple(rows)


def _shape_of(pieces):
    words = []
    end = NOTHING
    for low, high, kind in pieces:
        if low != end:
            words.append("minimum")
        words.append(kind)
        end = high
    if end != WHOLE:
        words.append("minimum")
    return tuple(words)


def _both(pieces, x, y):
    piece = _piece_around(pieces, x, y)
    if piece is None:
        return lower_of(x, y)
    low, high, kind = piece
    if kind == "sum":
        return higher_of(low, minus(plus(x, y), high))
    return plus(low, over(times(minus(x, low), minus(y, low)), minus(high, low)))


def _then(pieces, x, y):
    if not is_below(y, x):
        return WHOLE
    piece = _piece_around(pieces, x, y)
    if piece is None:
        return y
    low, high, kind = piece
    if kind == "sum":
        return plus(minus(high, x), y)
    return plus(low, over(times(minus(high, low), minus(y, low)), minus(x, low)))


def _piece_around(pieces, x, y):
    """The piece in which both degrees lie, its ends included, or None."""
    least, most = lower_of(x, y), higher_of(x, y)
    for piece in pieces:
        if not is_below(least, piece[0]) and not is_below(piece[1], most):
            return piece
    return None


def check_named(sayings, degrees):
    """Raises NoDegree with the first name of some sayings, in order of the letters, that has no degree."""
    letters = [name for saying in sayings for name in saying.names]
    for name in sorted(set(letters)):
        if name not in degrees:
            raise NoDegree(name)


def _worths(pieces, sayings, degrees):
    """The worths of all parts of some sayings, by their texts."""
    worths = {}
    for saying in sayings:
        for part in saying.parts():
            values = [worths[str(piece)] for piece in part.pieces]
            worths[str(part)] = _worth_of(pieces, part, values, degrees)
    return worths


def _worth_of(pieces, part, values, degrees):
    kind = part.kind
    if kind == "name":
        return degrees[part.letter]
    if kind == "never":
        return NOTHING
    if kind == "always":
        return WHOLE
    if kind == "denied":
        return _then(pieces, values[0], NOTHING)
    v, w = values
    if kind == "both":
        return _both(pieces, v, w)
    if kind == "then":
        return _then(pieces, v, w)
    if kind == "lower":
        return lower_of(v, w)
    if kind == "higher":
        return higher_of(v, w)
    return lower_of(_then(pieces, v, w), _then(pieces, w, v))
