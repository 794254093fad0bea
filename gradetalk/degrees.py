"""Degrees: fractions from 0 to 1, as tuples (top, bottom) in lowest terms."""

from math import gcd

from gradetalk.errors import InvalidDegree


def is_whole(thing):
    """Whether a value is an integer: True and False are none."""
    return isinstance(thing, int) and not isinstance(thing, bool)


def is_degree(thing):
    """Whether a value, which may be anything, is a degree."""
    if not isinstance(thing, tuple) or len(thing) != 2:
        return False
    top, bottom = thing
    if not is_whole(top) or not is_whole(bottom):
        return False
    return bottom >= 1 and 0 <= top <= bottom and gcd(top, bottom) == 1


def check_degree(thing):
    """Raises InvalidDegree with a thing that is not a degree."""
    if not is_degree(thing):
        raise InvalidDegree(thing)


def degree(top, bottom):
    """The degree with the value top / bottom, in lowest terms."""
    if not is_whole(top) or top < 0:
        raise InvalidDegree(top)
    if not is_whole(bottom) or bottom < 1:
        raise InvalidDegree(bottom)
    if top > bottom:
        raise InvalidDegree((top, bottom))
    shared = gcd(top, bottom)
    return (top // shared, bottom // shared)


def at_most(x, y):
    """Whether the degree x is at most the degree y."""
    check_degree(x)
    check_degree(y)
    return x[0] * y[1] <= y[0] * x[1]
