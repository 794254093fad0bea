"""How many sums break a saying, how often a fact must be used, and the least sets of facts."""

from gradetalk.checks import check_facts, check_saying
from gradetalk.deciding import break_among_all, follows
from gradetalk.joinings import WHOLE
from gradetalk.plans import Plan
from gradetalk.searching import spots_in


def grade(saying, facts=()):
    """The least number of sums in the shape of which a saying does not follow from facts, or None."""
    check_saying(saying)
    check_facts(facts)
    plan = Plan(saying, facts)
    for count in range(1, len(plan.letters) + 2):
        if spots_in(("sum",) * count, plan) is not None:
            return count
    return None


def fewest(saying, facts=()):
    """The least number of pieces of a joining with a break, or None if no joining has one."""
    check_saying(saying)
    check_facts(facts)
    plan = Plan(saying, facts)
    for count in range(len(plan.letters) + 2):
        for shape in _roomy_shapes(count):
            if spots_in(shape, plan) is not None:
                return count
    return None


def uses(fact, saying, facts=()):
    """How often a fact must be used for a saying, and a break if it is used once less; or None."""
    check_saying(fact)
    check_saying(saying)
    check_facts(facts)
    if not follows(saying, [fact, *facts]):
        return None
    count = 0
    found = None
    broken = break_among_all(Plan(saying, facts, [fact]))
    while broken is not None:
        count += 1
        found = broken
        plan = Plan(saying, facts, [fact])
        plan.use(fact, count)
        broken = break_among_all(plan)
    return (count, found)


def least_facts(saying, facts):
    """The tuple of all least sets of facts from which a saying follows, each told by its places."""
    check_saying(saying)
    check_facts(facts)
    enough = []
    lacking = []
    # A set is told by bits, so each part of it has a lower number and comes ahead of it.
    for bits in range(1 << len(facts)):
        if _is_told(bits, enough, lacking):
            continue
        plan = Plan(saying, [facts[place] for place in _places(bits, len(facts))], facts)
        broken = break_among_all(plan)
        if broken is None:
            enough.append(bits)
        else:
            lacking.append(_holding(broken, facts))
    return tuple(sorted([_places(bits, len(facts)) for bits in enough]))


def _roomy_shapes(count):
    """Shapes with this number of sums, one of which has a break if any shape with so many has one.

    A further minimum does no harm, except as the lowest stretch, since never lies there.
    """
    if count == 0:
        return [("minimum",)]
    return [("sum", "minimum") * count, ("minimum", "sum") * count + ("minimum",)]


def _is_told(bits, enough, lacking):
    """Whether a part of these facts is enough, or they are a part of what is not enough."""
    for part in enough:
        if (part & bits) == part:
            return True
    for whole in lacking:
        if (bits & whole) == bits:
            return True
    return False


def _places(bits, many):
    return tuple([place for place in range(many) if ((bits >> place) & 1) == 1])


def _holding(broken, facts):
    """The bits of the facts that have the worth 1 in a break: no part of these is enough."""
    joining, degrees = broken
    bits = 0
    for place, fact in enumerate(facts):
        if joining.worth(fact, degrees) == WHOLE:
            bits = bits + (1 << place)
    return bits
