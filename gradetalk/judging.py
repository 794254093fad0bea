"""Judging papers: trees that show that a saying follows from facts in a shape."""

from gradetalk.checks import check_facts, check_saying, check_shape
from gradetalk.degrees import is_whole
from gradetalk.places import name_at, name_rows, words_of
from gradetalk.plans import Plan


def is_paper(shape, saying, facts, thing):
    """Whether a value, which may be anything, is a paper that a saying follows from facts in a shape."""
    check_shape(shape)
    check_saying(saying)
    check_facts(facts)
    plan = Plan(saying, facts)
    words = words_of(shape, len(plan.letters))
    # A branch is a tuple: a node, what is known there, and the rows on the way to it.
    waiting = [(thing, plan.start(words), [])]
    while waiting:
        branches = _branches(plan, words, waiting.pop())
        if branches is None:
            return False
        waiting.extend(branches)
    return True


def _branches(plan, words, branch):
    """The list of the branches behind a node, or None if it is no node of a paper."""
    node, known, rows = branch
    if not isinstance(node, tuple) or len(node) == 0 or not isinstance(node[0], str):
        return None
    if node[0] == "place" and len(node) == 3:
        return _placed(plan, words, branch)
    if node[0] == "split" and len(node) > 2:
        return _split(plan, words, branch)
    top = len(words) - 1
    if node[0] == "one" and len(node) == 1:
        closed = known[plan.goal] is not None and known[plan.goal][0] == top
    elif node[0] == "below" and len(node) == 2:
        closed = _is_below(plan, known, top, node[1])
    else:
        closed = node[0] == "cannot" and len(node) == 2 and _cannot_be(rows, node[1])
    return [] if closed else None


def _placed(plan, words, branch):
    node, known, rows = branch
    _, name, trees = node
    if not isinstance(name, str) or name not in plan.letters or known[plan.numbers[name]] is not None:
        return None
    if not isinstance(trees, tuple) or len(trees) != len(words):
        return None
    at, many = plan.letters.index(name), len(plan.letters)
    found = []
    for rank, tree in enumerate(trees):
        more = plan.with_worth(known, plan.numbers[name], name_at(words, rank, at, many), words)
        found.append((tree, more, rows + name_rows(words, rank, at, many)))
    return found


def _split(plan, words, branch):
    node, known, rows = branch
    text, trees = node[1], node[2:]
    if not isinstance(text, str) or text not in plan.numbers:
        return None
    number = plan.numbers[text]
    if known[number] is not None:
        return None
    # What is not known itself has no sides, or is a part that must be split.
    sides = plan.sides(known, number, words)
    if len(sides) != len(trees):
        return None
    found = []
    for tree, (brought, worth) in zip(trees, sides):
        found.append((tree, plan.with_worth(known, number, worth, words), rows + brought))
    return found


def _is_below(plan, known, top, number):
    if not is_whole(number) or number < 0 or number >= len(plan.given):
        return False
    worth = known[plan.given[number]]
    return worth is not None and worth[0] != top


def _cannot_be(rows, weights):
    """Whether a sum of the rows, each times its weight, says what cannot be."""
    if not isinstance(weights, tuple) or len(weights) != len(rows):
        return False
    strict = False
    total = []
    for (form, above), weight in zip(rows, weights):
        if not is_whole(weight) or weight < 0:
            return False
        strict = strict or (above and weight > 0)
        scaled = [weight * value for value in form]
        total = [p + q for p, q in zip(total, scaled)] if total else scaled
    if not total or [value for value in total[1:] if value != 0]:
        return False
    return total[0] < 0 or (total[0] == 0 and strict)
