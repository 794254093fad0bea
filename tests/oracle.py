"""What the document says of worths, places and papers, once more: plainly, slowly, and with fractions.

Nothing here is taken from the package but the sayings themselves, so that the tests can compare.
"""

from fractions import Fraction

SIGNS = {"both": " & ", "then": " -> ", "lower": " min ", "higher": " max ", "same": " same "}


def told_text(saying):
    """The text of a saying [6]."""
    texts = [told_text(piece) for piece in saying.pieces]
    if saying.kind == "denied":
        return "not " + texts[0]
    if saying.kind in SIGNS:
        return "(" + texts[0] + SIGNS[saying.kind] + texts[1] + ")"
    return {"never": "0", "always": "1"}.get(saying.kind, saying.letter)


def told_parts(saying):
    """The parts of a saying, by their texts."""
    found = {}
    for piece in saying.pieces:
        found.update(told_parts(piece))
    found[told_text(saying)] = saying
    return found


def told_letters(sayings):
    return sorted(text for saying in sayings for text, part in told_parts(saying).items() if part.kind == "name")


def letters_of(sayings):
    return sorted(set(told_letters(sayings)))


# Joinings and worths: points 7, 8, 10 and 11.


def pieces_of(joining):
    return [(Fraction(*low), Fraction(*high), kind) for low, high, kind in joining.pieces]


def told_both(pieces, x, y):
    for low, high, kind in pieces:
        if low <= x <= high and low <= y <= high:
            if kind == "sum":
                return max(low, x + y - high)
            return low + (x - low) * (y - low) / (high - low)
    return min(x, y)


def told_then(pieces, x, y):
    if x <= y:
        return Fraction(1)
    for low, high, kind in pieces:
        if low <= x <= high and low <= y <= high:
            if kind == "sum":
                return high - x + y
            return low + (high - low) * (y - low) / (x - low)
    return y


def told_worth(pieces, saying, degrees):
    if saying.kind == "name":
        return Fraction(*degrees[saying.letter])
    if saying.kind in ("never", "always"):
        return Fraction(saying.kind == "always")
    worths = [told_worth(pieces, piece, degrees) for piece in saying.pieces]
    if saying.kind == "denied":
        return told_then(pieces, worths[0], Fraction(0))
    v, w = worths
    return {
        "both": lambda: told_both(pieces, v, w),
        "then": lambda: told_then(pieces, v, w),
        "lower": lambda: min(v, w),
        "higher": lambda: max(v, w),
        "same": lambda: min(told_then(pieces, v, w), told_then(pieces, w, v)),
    }[saying.kind]()


def told_is_break(pieces, saying, facts, degrees):
    if any(told_worth(pieces, fact, degrees) != 1 for fact in facts):
        return False
    return told_worth(pieces, saying, degrees) != 1


def told_shape(pieces):
    found, end = [], Fraction(0)
    for low, high, kind in sorted(pieces):
        if low > end:
            found.append("minimum")
        found.append(kind)
        end = high
    if end < 1:
        found.append("minimum")
    return tuple(found)


# Places: point 13. A worth is (place, form); a form is a dict of fractions by letters, and by "" the number.


def told_places(shape, many):
    found = []
    for i, kind in enumerate(shape):
        if kind == "sum":
            found.append(("sum", i))
        if kind == "product":
            found.append(("low", i))
            found.append(("in", i))
        if kind == "minimum":
            for j in range(many + 1 if i == 0 else many):
                found.append(("at", i, j))
    return found + [("one",)]


def form(**told):
    return {("" if key == "number" else key): value for key, value in told.items()}


def add(v, w, factor=1):
    return {key: v.get(key, 0) + factor * w.get(key, 0) for key in {*v, *w}}


def less(v, w):
    return add(v, w, -1)


ONE = {"": 1}


def told_sides(kind, x, y, places):
    """Either ("known", worth), or ("split", [(rows, worth), ..]); a row is (form, ">=" or ">")."""
    one = (("one",), {})
    if kind == "denied":
        y = (places[0], {"": 0})
        if x[0] == ("sum", 0):
            v = x[1]
            return "split", [
                ([(less({"": 0}, v), ">=")], one),
                ([(v, ">")], (("sum", 0), less(ONE, v))),
            ]
        if x[0] == places[0]:
            return "known", one
        return "known", y
    if x[0] == ("one",) or y[0] == ("one",):
        other = y if x[0] == ("one",) else x
        if kind == "then":
            return "known", (one if y[0] == ("one",) else y)
        return "known", (one if kind == "higher" else other)
    if x[0] != y[0]:
        low, high = (x, y) if places.index(x[0]) < places.index(y[0]) else (y, x)
        if kind == "then":
            return "known", (one if x is low else y)
        return "known", (high if kind == "higher" else low)
    place = x[0]
    if place[0] in ("low", "at"):
        return "known", (one if kind in ("then", "same") else x)
    v, w = x[1], y[1]
    if place[0] == "in":
        return _told_in(kind, x, y, v, w, place, one)
    if kind == "both":
        return "split", [
            ([(less(add(v, w), ONE), ">=")], (place, less(add(v, w), ONE))),
            ([(less(less(ONE, v), w), ">")], (place, {"": 0})),
        ]
    if kind == "same":
        return "split", [
            ([(less(w, v), ">")], (place, add(less(ONE, w), v))),
            ([(less(w, v), ">="), (less(v, w), ">=")], one),
            ([(less(v, w), ">")], (place, add(less(ONE, v), w))),
        ]
    yes, no = {"then": (one, (place, add(less(ONE, v), w))), "lower": (x, y), "higher": (y, x)}[kind]
    return "split", [([(less(w, v), ">=")], yes), ([(less(v, w), ">")], no)]


def _told_in(kind, x, y, v, w, place, one):
    if kind == "both":
        return "known", (place, add(v, w))
    if kind == "same":
        return "split", [
            ([(less(v, w), ">")], (place, less(v, w))),
            ([(less(v, w), ">="), (less(w, v), ">=")], one),
            ([(less(w, v), ">")], (place, less(w, v))),
        ]
    yes, no = {"then": (one, (place, less(w, v))), "lower": (x, y), "higher": (y, x)}[kind]
    return "split", [([(less(v, w), ">=")], yes), ([(less(w, v), ">")], no)]


class Way:
    """The way from the top of a paper to a node: what is placed and split on it, and its rows."""

    def __init__(self, shape, saying, facts):
        self.saying, self.facts = saying, facts
        self.letters = letters_of([saying, *facts])
        self.places = told_places(shape, len(self.letters))
        self.parts = {}
        for one in (*facts, saying):
            self.parts.update(told_parts(one))
        self.placed, self.split, self.rows = {}, {}, []

    def further(self):
        way = object.__new__(Way)
        way.__dict__.update(self.__dict__)
        way.placed, way.split, way.rows = dict(self.placed), dict(self.split), list(self.rows)
        return way

    def sides(self, part):
        """What told_sides says of a part whose pieces are known; None if one is not."""
        worths = [self.known(piece) for piece in part.pieces]
        if not worths or None in worths:
            return None
        return told_sides(part.kind, worths[0], worths[-1], self.places)

    def known(self, part):
        if part.kind == "name":
            return self.placed.get(part.letter)
        if part.kind == "never":
            return (self.places[0], {"": 0})
        if part.kind == "always":
            return (("one",), {})
        if told_text(part) in self.split:
            return self.split[told_text(part)]
        sides = self.sides(part)
        return sides[1] if sides and sides[0] == "known" else None

    def at_place(self, letter, place):
        way = self.further()
        way.placed[letter] = (place, {letter: 1})
        if place[0] == "sum":
            way.rows += [({letter: 1}, ">="), ({"": 1, letter: -1}, ">")]
        if place[0] == "in":
            way.rows += [({letter: 1}, ">")]
        return way

    def at_side(self, text, side):
        way = self.further()
        way.rows += side[0]
        way.split[text] = side[1]
        return way

    def to_split(self):
        """The texts of the parts that may be split here, with their sides."""
        found = {}
        for text, part in self.parts.items():
            if text not in self.split:
                sides = self.sides(part)
                if sides and sides[0] == "split":
                    found[text] = sides[1]
        return found


def told_is_paper(shape, saying, facts, thing):
    """Point 14 for things of the right kinds (a paper with some parts exchanged)."""
    return _is_node(Way(shape, saying, list(facts)), thing)


def _is_node(way, node):
    if type(node) is not tuple or not node or type(node[0]) is not str:
        return False
    if node[0] == "place":
        if len(node) != 3 or type(node[1]) is not str or type(node[2]) is not tuple:
            return False
        if node[1] not in way.letters or node[1] in way.placed or len(node[2]) != len(way.places):
            return False
        return all(_is_node(way.at_place(node[1], place), tree) for place, tree in zip(way.places, node[2]))
    if node[0] == "split":
        if len(node) < 2 or type(node[1]) is not str or node[1] not in way.to_split():
            return False
        sides = way.to_split()[node[1]]
        if len(node) != 2 + len(sides):
            return False
        return all(_is_node(way.at_side(node[1], side), tree) for side, tree in zip(sides, node[2:]))
    if node[0] == "one":
        worth = way.known(way.saying)
        return len(node) == 1 and worth is not None and worth[0] == ("one",)
    if node[0] == "below":
        if len(node) != 2 or type(node[1]) is not int or not 0 <= node[1] < len(way.facts):
            return False
        worth = way.known(way.facts[node[1]])
        return worth is not None and worth[0] != ("one",)
    if node[0] == "cannot":
        return len(node) == 2 and _are_weights(way.rows, node[1])
    return False


def _are_weights(rows, weights):
    if type(weights) is not tuple or len(weights) != len(rows):
        return False
    if any(type(weight) is not int or weight < 0 for weight in weights):
        return False
    total = {}
    for (told, _), weight in zip(rows, weights):
        total = add(total, told, weight)
    if any(value for key, value in total.items() if key):
        return False
    number = total.get("", 0)
    return number < 0 or (number == 0 and any(row[1] == ">" and weight > 0 for row, weight in zip(rows, weights)))


# Writing papers.


def told_weights(rows):
    """The weights with which the rows cannot all be so, or None; by taking out one unknown after another."""
    letters = sorted({key for told, _ in rows for key in told if key})
    lines = []
    for at, (told, sign) in enumerate(rows):
        weights = tuple(int(at == other) for other in range(len(rows)))
        lines.append((dict(told), sign == ">", weights))
    for gone, letter in enumerate(letters, 1):
        rising = [line for line in lines if line[0].get(letter, 0) > 0]
        falling = [line for line in lines if line[0].get(letter, 0) < 0]
        lines = [line for line in lines if line[0].get(letter, 0) == 0]
        seen = {line[2] for line in lines}
        for up in rising:
            for down in falling:
                first, second = -down[0][letter], up[0][letter]
                weights = tuple(first * p + second * q for p, q in zip(up[2], down[2]))
                # A sum of more rows than this follows from others.
                if sum(weight > 0 for weight in weights) > gone + 1 or weights in seen:
                    continue
                seen.add(weights)
                told = add({key: first * value for key, value in up[0].items()}, down[0], second)
                lines.append((told, up[1] or down[1], weights))
    for told, strict, weights in lines:
        number = told.get("", 0)
        if number < 0 or (number == 0 and strict):
            return weights
    return None


def built_paper(shape, saying, facts, rng=None):
    """A paper, or None if there is a break; with rng, in an order that is drawn."""
    return _built(Way(shape, saying, list(facts)), rng)


def _built(way, rng):
    worth = way.known(way.saying)
    if worth is not None and worth[0] == ("one",):
        return ("one",)
    for number, fact in enumerate(way.facts):
        worth = way.known(fact)
        if worth is not None and worth[0] != ("one",):
            return ("below", number)
    weights = told_weights(way.rows)
    if weights is not None:
        return ("cannot", weights)
    left = [letter for letter in way.letters if letter not in way.placed]
    splits = way.to_split()
    steps = [*left, *splits]
    if not steps:
        return None
    step = rng.choice(steps) if rng else steps[0]
    if step in left:
        trees = [_built(way.at_place(step, place), rng) for place in way.places]
        return None if None in trees else ("place", step, tuple(trees))
    trees = [_built(way.at_side(step, side), rng) for side in splits[step]]
    return None if None in trees else ("split", step, *trees)
