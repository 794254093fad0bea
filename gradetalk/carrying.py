"""Degrees under sums with which all parts of sayings stand in the order that they had under a joining."""

from gradetalk.cells import cut, full_cell, point_of
from gradetalk.checks import check_degrees, check_sayings
from gradetalk.degrees import degree
from gradetalk.errors import InvalidJoining
from gradetalk.joinings import NOTHING, WHOLE, Joining, check_named
from gradetalk.places import name_at, name_rows, sides_of
from gradetalk.plans import Plan
from gradetalk.ratios import is_below, minus, over
from gradetalk.sayings import never


def carried(joining, degrees, sayings):
    """Degrees for the names of sayings that carry over to sums what is so under a joining."""
    if not isinstance(joining, Joining):
        raise InvalidJoining(joining)
    check_degrees(degrees)
    check_sayings(sayings)
    check_named(sayings, degrees)
    plan = Plan(never(), sayings)
    seating = Seating(joining.pieces, [degrees[letter] for letter in plan.letters])
    fractions = seating.fractions(plan)
    # Each place becomes the sum with the number of its rank; so many are enough for any names.
    width = len(plan.letters) + 1
    found = {}
    for at, letter in enumerate(plan.letters):
        top, bottom = fractions[at]
        found[letter] = WHOLE if degrees[letter] == WHOLE else degree(seating.ranks[at] * bottom + top, width * bottom)
    return found


class Seating:
    """Where names lie that have some degrees under a joining.

    The words are those of the places where never, always and the names lie, from the lowest one. Each
    name has a rank, the number of its place, and a share: how far between the ends of its piece it
    lies, from 0 up to 1.
    """

    def __init__(self, pieces, worths):
        seats = [_seat(pieces, worth) for worth in worths]
        places = _ascending([place for place, share in [_seat(pieces, NOTHING), *seats, _seat(pieces, WHOLE)]])
        self.words = [word for low, word in places]
        self.ranks = [places.index(place) for place, share in seats]
        self.shares = [share for place, share in seats]

    def fractions(self, plan):
        """The fractions of the names in sums in which the parts of the plan keep their order."""
        known = self._known(plan)
        found = list(self.shares)
        for rank, word in enumerate(self.words):
            if word == "in":
                self._carry(rank, known, found)
        return found

    def _known(self, plan):
        """What is known of the steps of a plan, by the shares of its names."""
        many = len(self.ranks)
        known = plan.start(self.words)
        for at, letter in enumerate(plan.letters):
            worth = name_at(self.words, self.ranks[at], at, many)
            known = plan.with_worth(known, plan.numbers[letter], worth, self.words)
        for number in range(len(plan.steps)):
            if known[number] is None:
                rank = known[plan.steps[number][1]][0]
                rows, worth = self._true_side(rank, plan.sides(known, number, self.words))
                known = plan.with_worth(known, number, worth, self.words)
        return known

    def _true_side(self, rank, sides):
        """The side whose rows, with unknowns at a rank, hold for the shares."""
        for rows, worth in sides:
            if all([_holds(self.words[rank], form, strict, self.shares) for form, strict in rows]):
                return (rows, worth)
        return None

    def _carry(self, rank, known, found):
        """Puts in fractions for the names within a product.

        Their exponents are no fractions, mostly; but integers will do for which the parts that lie there
        have the same order. Scaled down, so that no both of them falls to the low end of the sum, they
        tell how far below the high end the names lie.
        """
        many = len(self.ranks)
        there = [at for at in range(many) if self.ranks[at] == rank]
        cell = full_cell([at + 1 for at in there], many + 1)
        for at in there:
            cell = cut(cell, name_rows(self.words, rank, at, many))
        forms = sorted(set([worth[1] for worth in known if worth[0] == rank]))
        for at, form in enumerate(forms):
            for other in forms[:at]:
                rows, _ = self._true_side(rank, sides_of("same", (rank, form), (rank, other), self.words))
                cell = cut(cell, rows)
        point = point_of(cell)
        most = max([sum([p * q for p, q in zip(form, point)]) for form in forms])
        for at in there:
            found[at] = (most + 1 - point[at + 1], most + 1)


def _seat(pieces, worth):
    """Where a degree lies: a place (low, word), and how far above low as a part of the piece."""
    if worth == WHOLE:
        return ((WHOLE, "one"), NOTHING)
    for low, high, kind in pieces:
        if not is_below(worth, low) and is_below(worth, high) and (kind == "sum" or worth != low):
            return ((low, "sum" if kind == "sum" else "in"), over(minus(worth, low), minus(high, low)))
    return ((worth, "at"), NOTHING)


def _ascending(places):
    """The list of some places, each once, from the lowest one."""
    found = []
    for place in places:
        if place not in found:
            at = len([1 for other in found if _is_under(other, place)])
            found.insert(at, place)
    return found


def _is_under(place, other):
    # The low end of a product is a place of its own beneath what lies within.
    return is_below(place[0], other[0]) or (place[0] == other[0] and place[1] == "at" and other[1] == "in")


def _holds(word, form, strict, shares):
    """Whether a row holds for shares, which within a product are 1/2 to the power of the unknowns."""
    if word == "in":
        above, below = _powers(form, shares)
    else:
        above, below = _total(form, shares)
    return above > below or (above == below and not strict)


def _total(form, shares):
    """Two integers, the first one of which is greater if the form of the shares is above 0."""
    above, bottom = form[0], 1
    for count, (top, under) in zip(form[1:], shares):
        above, bottom = above * under + count * top * bottom, bottom * under
    return (above, 0)


def _powers(form, shares):
    """Two integers, the first one of which is greater if the form of the exponents is above 0."""
    above, below = 1, 1
    for count, (top, bottom) in zip(form[1:], shares):
        for _ in range(abs(count)):
            # A lower share stands for a greater exponent.
            above, below = (above * bottom, below * top) if count > 0 else (above * top, below * bottom)
    return (above, below)
