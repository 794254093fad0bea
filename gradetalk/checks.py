"""The arguments that several functions take alike, and the errors that wrong ones raise."""

from gradetalk.degrees import is_degree
from gradetalk.errors import InvalidDegrees, InvalidFacts, InvalidSaying, InvalidSayings, InvalidShape
from gradetalk.sayings import Saying, is_letter

STRETCHES = ("sum", "product", "minimum")


def check_saying(thing):
    """Raises InvalidSaying with a thing that is not a saying."""
    if not isinstance(thing, Saying):
        raise InvalidSaying(thing)


def check_facts(things):
    """Raises InvalidFacts for things that are no list, or for the first item that is no saying."""
    if not isinstance(things, (list, tuple)):
        raise InvalidFacts(None)
    for place, thing in enumerate(things):
        if not isinstance(thing, Saying):
            raise InvalidFacts(place)


def check_sayings(things):
    """Raises InvalidSayings for things that are no list, or for the first item that is no saying."""
    if not isinstance(things, (list, tuple)):
        raise InvalidSayings(None)
    for place, thing in enumerate(things):
        if not isinstance(thing, Saying):
            raise InvalidSayings(place)


def check_degrees(thing):
    """Raises InvalidDegrees with a thing that is not a dict with degrees for letters."""
    if not _has_degrees(thing):
        raise InvalidDegrees(thing)


def check_shape(thing):
    """Raises InvalidShape with a thing that is not the shape of a joining."""
    if not _is_shape(thing):
        raise InvalidShape(thing)


def _has_degrees(thing):
    if not isinstance(thing, dict):
        return False
    for name, worth in thing.items():
        if not is_letter(name) or not is_degree(worth):
            return False
    return True


def _is_shape(thing):
    if not isinstance(thing, tuple) or len(thing) == 0:
        return False
    below = None
    for word in thing:
        if not isinstance(word, str) or word not in STRETCHES:
            return False
        if word == "minimum" and below == "minimum":
            return False
        below = word
    return True
