"""Sayings: names, never and always, and what is put together of them."""

from gradetalk.errors import InvalidName, InvalidSaying, TooLarge

MOST_NODES = 200

# How the kinds of two pieces are written between the texts of these.
SIGNS = {"both": "&", "then": "->", "lower": "min", "higher": "max", "same": "same"}


class Saying:
    """A saying: its kind, and its pieces, which are sayings, in order.

    Made by named, never, always and the methods and operators of sayings.
    """

    def __init__(self, kind, pieces=(), letter=None):
        size = 1 + sum([piece.size for piece in pieces])
        if size > MOST_NODES:
            raise TooLarge(size)
        self.kind = kind
        self.pieces = pieces
        self.letter = letter
        self.size = size
        self.names = _names(pieces, letter)
        # Kept, so that neither str nor == goes down into a deep saying by recursion.
        self._text = _text_of(kind, pieces, letter)

    def both(self, other):
        """The saying: this one and the other one, joined by both."""
        return _joined("both", self, other)

    def then(self, other):
        """The saying: if this one, then the other one."""
        return _joined("then", self, other)

    def lower(self, other):
        """The saying that has the lower worth of the two."""
        return _joined("lower", self, other)

    def higher(self, other):
        """The saying that has the higher worth of the two."""
        return _joined("higher", self, other)

    def same(self, other):
        """The saying that the two have the same worth."""
        return _joined("same", self, other)

    def denied(self):
        """The saying: if this one, then never."""
        return Saying("denied", (self,))

    def parts(self):
        """The list of all sayings that are nodes of this one, each once.

        Those of the first piece come first, then those of the second one, then this one.
        """
        waiting = [self]
        backwards = []
        while waiting:
            node = waiting.pop()
            backwards.append(node)
            waiting.extend(node.pieces)
        found = {}
        for node in reversed(backwards):
            found.setdefault(str(node), node)
        return list(found.values())

    def __and__(self, other):
        if not isinstance(other, Saying):
            raise TypeError("both sides of & must be sayings")
        return self.both(other)

    def __rshift__(self, other):
        if not isinstance(other, Saying):
            raise TypeError("both sides of >> must be sayings")
        return self.then(other)

    def __invert__(self):
        return self.denied()

    def __eq__(self, other):
        # Every saying has a text of its own, so equal texts are equal sayings.
        return isinstance(other, Saying) and self._text == other._text

    def __str__(self):
        return str(self._text)


def is_letter(thing):
    """Whether a value is one of the strings a to z."""
    return isinstance(thing, str) and len(thing) == 1 and "a" <= thing <= "z"


def named(name):
    """The saying that is a name, one of the letters a to z."""
    if not is_letter(name):
        raise InvalidName(name)
    return Saying("name", (), name)


def never():
    """The saying that never is so."""
    return Saying("never")


def always():
    """The saying that always is so."""
    return Saying("always")


def _joined(kind, first, second):
    if not isinstance(second, Saying):
        raise InvalidSaying(second)
    return Saying(kind, (first, second))


def _names(pieces, letter):
    if letter is not None:
        return (letter,)
    letters = [name for piece in pieces for name in piece.names]
    return tuple(sorted(set(letters)))


def _text_of(kind, pieces, letter):
    if kind == "name":
        return letter
    if kind == "never":
        return "0"
    if kind == "always":
        return "1"
    if kind == "denied":
        return f"not {pieces[0]}"
    return f"({pieces[0]} {SIGNS[kind]} {pieces[1]})"
