"""Papers: trees that show that a saying follows from facts in a shape."""

from gradetalk.checks import check_facts, check_saying, check_shape
from gradetalk.plans import Plan
from gradetalk.sayings import never
from gradetalk.searching import spots_in
from gradetalk.writing import Scribe


def paper_in(shape, saying, facts=()):
    """A paper that a saying follows from facts in a shape, or None if it does not."""
    check_shape(shape)
    check_saying(saying)
    check_facts(facts)
    plan = Plan(saying, facts)
    if spots_in(shape, plan) is not None:
        return None
    scribe = Scribe(shape, plan, _aims(shape, plan, saying, facts))
    return scribe.written()


def paper(saying, facts=()):
    """A paper that a saying follows from facts in the shape of one sum more than there are names."""
    check_saying(saying)
    check_facts(facts)
    many = len(Plan(saying, facts).letters)
    return paper_in(("sum",) * (many + 1), saying, facts)


def _aims(shape, plan, saying, facts):
    """What is enough to close the branches of a paper, as aims of a scribe.

    Facts that are not needed are left out, and so is the saying where the facts alone will do, as each
    aim makes the paper longer.
    """
    clash = _is_enough(shape, never(), facts)
    goal = never() if clash else saying
    kept = list(range(len(facts)))
    for number in range(len(facts)):
        fewer = [at for at in kept if at != number]
        if _is_enough(shape, goal, [facts[at] for at in fewer]):
            kept = fewer
    aims = [(plan.given[number], False, ("below", number)) for number in kept]
    return aims if clash else [*aims, (plan.goal, True, ("one",))]


def _is_enough(shape, saying, facts):
    return spots_in(shape, Plan(saying, facts)) is None
