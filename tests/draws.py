"""Drawn sayings, facts, shapes, joinings and degrees; what is drawn depends on the seed alone."""

from gradetalk.degrees import degree
from gradetalk.joinings import Joining
from gradetalk.sayings import always, named, never
from tests.things import BINARY

STRETCHES = ("sum", "product", "minimum")


def drawn_saying(rng, size, names, kinds=BINARY):
    """A saying of this size with some of the names."""
    if size == 1:
        return rng.choice((never(), always())) if rng.random() < 0.12 else named(rng.choice(names))
    if size == 2 or rng.random() < 0.12:
        return drawn_saying(rng, size - 1, names, kinds).denied()
    left = rng.randint(1, size - 2)
    first = drawn_saying(rng, left, names, kinds)
    return getattr(first, rng.choice(kinds))(drawn_saying(rng, size - 1 - left, names, kinds))


def drawn_shape(rng, most):
    """A shape of at most so many stretches."""
    found = []
    for _ in range(rng.randint(1, most)):
        found.append(rng.choice([kind for kind in STRETCHES if (*found[-1:], kind) != ("minimum", "minimum")]))
    return tuple(found)


def drawn_degrees(rng, names, bottom=24):
    """Degrees for names, also at 0 and 1."""
    return {name: degree(rng.randint(0, bottom), bottom) for name in names}


def joining_of(shape, rng=None):
    """A joining of a shape, with stretches of equal or of drawn widths."""
    ends = list(range(len(shape) + 1))
    if rng:
        ends = [0]
        for _ in shape:
            ends.append(ends[-1] + rng.randint(1, 5))
    points = [degree(end, ends[-1]) for end in ends]
    pieces = [(low, high, kind) for low, high, kind in zip(points, points[1:], shape) if kind != "minimum"]
    if rng:
        rng.shuffle(pieces)
    return Joining(pieces)
