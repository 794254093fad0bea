"""Whether a saying follows from facts, in a shape or under all joinings, and breaks that show it does not."""

from gradetalk.checks import check_facts, check_saying, check_shape
from gradetalk.degrees import degree
from gradetalk.joinings import Joining
from gradetalk.plans import Plan
from gradetalk.searching import spots_in


def follows_in(shape, saying, facts=()):
    """Whether a saying follows from facts in a shape."""
    return break_in(shape, saying, facts) is None


def break_in(shape, saying, facts=()):
    """A break (joining, degrees) with a joining of the shape, or None if the saying follows in it."""
    check_shape(shape)
    check_saying(saying)
    check_facts(facts)
    return break_by(shape, Plan(saying, facts))


def follows(saying, facts=()):
    """Whether a saying follows from facts under all joinings."""
    return break_of(saying, facts) is None


def break_of(saying, facts=()):
    """A break (joining, degrees), or None if the saying follows under all joinings."""
    check_saying(saying)
    check_facts(facts)
    return break_among_all(Plan(saying, facts))


def break_among_all(plan):
    """A break (joining, degrees) for a plan, of some shape, or None if there is none in any shape."""
    # So many sums are enough for all joinings.
    return break_by(("sum",) * (len(plan.letters) + 1), plan)


def break_by(shape, plan):
    """A break (joining, degrees) for a plan, of a shape, or None."""
    spots = spots_in(shape, plan)
    if spots is None:
        return None
    degrees = {letter: _degree_at(spot, shape, len(spots)) for letter, spot in zip(plan.letters, spots)}
    return (_joining_of(shape), degrees)


def _joining_of(shape):
    """The joining of a shape whose stretches have equal width."""
    width = len(shape)
    told = [(at, kind) for at, kind in enumerate(shape) if kind != "minimum"]
    return Joining([(degree(at, width), degree(at + 1, width), kind) for at, kind in told])


def _degree_at(spot, shape, many):
    """The degree at a spot in this joining, for this number of names."""
    place, top, bottom = spot
    if place[0] == "one":
        return (1, 1)
    if place[0] == "in":
        top, bottom = 1, 1 << top
    elif place[0] == "at":
        # The lowest place of all is 0 itself; the other ones are taken from within their stretch.
        top = place[2] if place[1] == 0 else place[2] + 1
        bottom = many + 1
    return degree(place[1] * bottom + top, len(shape) * bottom)
