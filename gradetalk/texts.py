"""Reading sayings from their texts."""

from gradetalk.errors import InvalidText, TooLarge
from gradetalk.sayings import MOST_NODES, Saying, always, is_letter, named, never

MOST_OPEN = 60

# What the signs between two sayings make of them.
KINDS = {"&": "both", "->": "then", "min": "lower", "max": "higher", "same": "same"}


def parsed(text):
    """The saying with a text, in which blanks may stand, or not, between the tokens."""
    if not isinstance(text, str):
        raise InvalidText(None)
    tokens = _tokens(text)
    _check_order(text, tokens)
    words = [token for at, token in tokens]
    # Every node has just one token, beside the parentheses.
    size = len(words) - words.count("(") - words.count(")")
    if size > MOST_NODES:
        raise TooLarge(size)
    return _built(words)


def _tokens(text):
    """The tokens with their places, up to the first place where none begins: there it is empty."""
    found = []
    at = 0
    while at < len(text):
        if text[at] == " ":
            at += 1
            continue
        token = _token_at(text, at)
        found.append((at, token))
        if token == "":
            break
        at += len(token)
    return found


def _token_at(text, at):
    end = at
    while end < len(text) and is_letter(text[end]):
        end += 1
    if end > at:
        return text[at:end]
    if text[at:at + 2] == "->":
        return "->"
    return text[at] if text[at] in "&()01" else ""


def _check_order(text, tokens):
    """Raises InvalidText at the first token that cannot stand where it does."""
    # What must come behind the sayings that are being read, from the outermost one.
    behind = ["end"]
    wanted = "saying"
    for at, token in tokens:
        if not _fits(token, wanted, len(behind) - 1):
            raise InvalidText(at)
        if token == "(":
            behind.append("sign")
        elif wanted == "sign":
            behind[-1] = "close"
        elif wanted == "close":
            behind.pop()
        unfinished = wanted == "sign" or token in ("(", "not")
        wanted = "saying" if unfinished else behind[-1]
    if wanted != "end":
        raise InvalidText(len(text))


def _fits(token, wanted, opened):
    if wanted == "saying":
        if token == "(":
            return opened < MOST_OPEN
        return is_letter(token) or token in ("0", "1", "not")
    if wanted == "sign":
        return token in KINDS
    return wanted == "close" and token == ")"


def _built(words):
    """The saying with these tokens, which must be in order."""
    # From the end, since then the pieces of a saying are always there before it is.
    sayings = []
    signs = []
    for word in reversed(words):
        if word in KINDS:
            signs.append(word)
        elif word == "not":
            piece = sayings.pop()
            sayings.append(piece.denied())
        elif word == "(":
            first = sayings.pop()
            second = sayings.pop()
            sayings.append(Saying(KINDS[signs.pop()], (first, second)))
        elif word != ")":
            sayings.append(_alone(word))
    return sayings[0]


def _alone(word):
    if word == "0":
        return never()
    if word == "1":
        return always()
    return named(word)
