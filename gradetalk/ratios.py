"""Fractions of any size and sign, as tuples (top, bottom) in lowest terms, bottom at least 1."""

from math import gcd


def ratio(top, bottom):
    """The fraction top / bottom, for a bottom above 0."""
    shared = gcd(top, bottom)
    return (top // shared, bottom // shared)


def plus(x, y):
    """The sum x + y."""
    return ratio(x[0] * y[1] + y[0] * x[1], x[1] * y[1])


def minus(x, y):
    """The difference x - y."""
    return ratio(x[0] * y[1] - y[0] * x[1], x[1] * y[1])


def times(x, y):
    """The product x * y."""
    return ratio(x[0] * y[0], x[1] * y[1])


def over(x, y):
    """The quotient x / y, for a y above 0."""
    return ratio(x[0] * y[1], x[1] * y[0])


def is_below(x, y):
    """Whether x is less than y."""
    return x[0] * y[1] < y[0] * x[1]


def lower_of(x, y):
    """The lower one of x and y."""
    return y if is_below(y, x) else x


def higher_of(x, y):
    """The higher one of x and y."""
    return y if is_below(x, y) else x
