"""Points 10, 13 and 14 and the section "gradetalk/judging.py" of the interface."""

import copy
import itertools
import random
import unittest

from gradetalk import errors
from gradetalk.deciding import follows_in
from gradetalk.joinings import sums
from gradetalk.judging import is_paper
from gradetalk.sayings import Saying, always, named, never
from gradetalk.texts import parsed
from tests.draws import drawn_saying, drawn_shape
from tests.oracle import built_paper, told_is_paper, told_places
from tests.things import anything, not_lists, not_sayings, not_shapes

SUM, PRODUCT, MINIMUM = ("sum",), ("product",), ("minimum",)
DONE = ("one",)


def judged(shape, text, facts, thing):
    return is_paper(shape, parsed(text), [parsed(fact) for fact in facts], thing)


def nodes_of(tree, path=()):
    """The paths of all nodes of a paper, from the top."""
    found = [path]
    if tree[0] == "place":
        for at, piece in enumerate(tree[2]):
            found += nodes_of(piece, (*path, 2, at))
    if tree[0] == "split":
        for at, piece in enumerate(tree[2:]):
            found += nodes_of(piece, (*path, 2 + at))
    return found


def part_at(tree, path):
    for at in path:
        tree = tree[at]
    return tree


def exchanged(tree, path, thing):
    if not path:
        return thing
    return (*tree[: path[0]], exchanged(tree[path[0]], path[1:], thing), *tree[path[0] + 1:])


class OfOneMinimum(unittest.TestCase):
    def test_places_alone(self):
        self.assertIs(judged(MINIMUM, "(a -> (a & a))", [], ("place", "a", (DONE, DONE, DONE))), True)

    def test_the_number_of_places(self):
        for count in range(7):
            self.assertIs(judged(MINIMUM, "(a -> (a & a))", [], ("place", "a", (DONE,) * count)), count == 3)

    def test_two_names(self):
        # never, two more places, and one; the names may be placed in any order.
        for first, second in (("a", "b"), ("b", "a")):
            for inner, outer in itertools.product(range(1, 6), repeat=2):
                paper = ("place", first, (("place", second, (DONE,) * inner),) * outer)
                self.assertIs(judged(MINIMUM, "((a & b) -> b)", [], paper), inner == outer == 4)

    def test_never_lies_at_the_lowest_place(self):
        self.assertIs(judged(MINIMUM, "(a -> 0)", ["not a"], ("place", "a", (DONE, ("below", 0), ("below", 0)))), True)
        self.assertIs(judged(MINIMUM, "(a -> 0)", [], ("place", "a", (DONE, DONE, DONE))), False)

    def test_no_names(self):
        self.assertIs(judged(MINIMUM, "1", [], DONE), True)
        self.assertIs(judged(MINIMUM, "not 0", [], DONE), True)
        self.assertIs(judged(MINIMUM, "(0 same 0)", [], DONE), True)
        self.assertIs(judged(MINIMUM, "0", [], DONE), False)
        self.assertIs(judged(MINIMUM, "0", ["0"], ("below", 0)), True)
        self.assertIs(judged(MINIMUM, "0", ["1"], ("below", 0)), False)


class OfOneSum(unittest.TestCase):
    def test_not_not(self):
        at_sum = (
            "split", "not a",
            # v >= 0, 1 - v > 0, 0 - v >= 0: so not a is one, and not not a is never.
            ("split", "(not not a -> a)", DONE, ("cannot", (1, 0, 0, 1))),
            # v >= 0, 1 - v > 0, v > 0: so not a is 1 - v.
            (
                "split", "not not a",
                ("cannot", (0, 1, 0, 1)),
                ("split", "(not not a -> a)", DONE, ("cannot", (0, 0, 0, 0, 1))),
            ),
        )
        at_one = ("split", "not not a", DONE, ("cannot", (1,)))
        paper = ("place", "a", (at_sum, at_one))
        self.assertIs(judged(SUM, "(not not a -> a)", [], paper), True)
        self.assertIs(judged(("sum", "sum"), "(not not a -> a)", [], paper), False)
        self.assertIs(judged(PRODUCT, "(not not a -> a)", [], paper), False)
        self.assertIs(judged(SUM, "(not not a -> b)", [], paper), False)
        self.assertIs(judged(SUM, "(not not a same a)", [], paper), False)
        for path, thing in (
            ((2, 0, 2, 3), ("cannot", (2, 0, 0, 2))),
            ((2, 0, 2, 3), ("cannot", (10**99, 0, 0, 10**99))),
            ((2, 0, 2, 3), ("cannot", (0, 0, 1, 0))),
            ((2, 0, 2, 3), ("cannot", (1, 0, 0, 0))),
            ((2, 0, 2, 3), ("cannot", (1, 0, 1, 0))),
            ((2, 0, 2, 3), ("cannot", (1, 0, 0, 1, 0))),
            ((2, 0, 2, 3), ("cannot", (1, 0, 0))),
            ((2, 0, 2, 3), ("cannot", (1, 0, 0, -1))),
            ((2, 0, 3, 2), ("cannot", (0, 2, 0, 2))),
            ((2, 0, 3, 2), ("cannot", (0, 1, 0, 2))),
            ((2, 0, 3, 3, 3), ("cannot", (0, 0, 0, 0, 0))),
            ((2, 0, 3, 3, 3), ("cannot", (0, 0, 0, 0, 7))),
            ((2, 1, 3), ("cannot", ())),
            ((2, 1, 3), ("cannot", (0,))),
            ((2, 1, 3), ("cannot", (5,))),
            ((2, 1, 2), ("cannot", (1,))),
        ):
            changed = exchanged(paper, path, thing)
            wanted = thing in (
                ("cannot", (2, 0, 0, 2)), ("cannot", (10**99, 0, 0, 10**99)), ("cannot", (0, 2, 0, 2)),
                ("cannot", (0, 0, 0, 0, 7)), ("cannot", (5,)),
            )
            with self.subTest((path, thing)):
                self.assertIs(judged(SUM, "(not not a -> a)", [], changed), wanted)
                self.assertIs(told_is_paper(SUM, parsed("(not not a -> a)"), [], changed), wanted)

    def test_rows_without_unknowns(self):
        for text, paper in (
            ("not 0", ("split", "not 0", DONE, ("cannot", (1,)))),
            ("(0 -> 0)", ("split", "(0 -> 0)", DONE, ("cannot", (1,)))),
            ("(0 same 0)", ("split", "(0 same 0)", ("cannot", (1,)), DONE, ("cannot", (3,)))),
            ("((0 & 0) -> 0)", (
                "split", "(0 & 0)", ("cannot", (1,)), ("split", "((0 & 0) -> 0)", DONE, ("cannot", (0, 1))))),
            ("((0 min 0) -> 0)", (
                "split", "(0 min 0)", ("split", "((0 min 0) -> 0)", DONE, ("cannot", (0, 1))), ("cannot", (1,)))),
            ("((0 max 0) -> 0)", (
                "split", "(0 max 0)", ("split", "((0 max 0) -> 0)", DONE, ("cannot", (0, 1))), ("cannot", (1,)))),
        ):
            for shape in (SUM, ("sum", "product"), ("sum", "minimum", "sum")):
                self.assertIs(judged(shape, text, [], paper), True, text)
            self.assertIs(judged(SUM, text, [], DONE), False)
            self.assertIs(judged(MINIMUM, text, [], paper), False)
            self.assertIs(judged(MINIMUM, text, [], DONE), True)
            self.assertIs(judged(("product", "sum"), text, [], DONE), True)

    def test_only_what_must_be_split_is_split(self):
        split = ("split", "not a", DONE, DONE)
        self.assertIs(judged(SUM, "(not a -> not a)", [], ("place", "a", (DONE, split))), False)
        for text in ("(1 -> 0)", "(0 & 1)", "not 1", "(0 min 1)", "(0 max 1)", "(1 & 1)", "(1 -> 1)"):
            paper = ("split", text, DONE, DONE)
            self.assertIs(judged(SUM, f"({text} max 1)", [], paper), False)
            self.assertIs(judged(SUM, f"({text} max 1)", [], DONE), True)
        self.assertIs(judged(SUM, "((1 same 0) max 1)", [], ("split", "(1 same 0)", DONE, DONE, DONE)), False)


class Facts(unittest.TestCase):
    def paper(self, first, second):
        below = ("below", first)
        return ("place", "a", (below, below, ("place", "b", (("below", second), ("below", second), DONE))))

    def test_below(self):
        facts = ["a", "(a -> b)"]
        self.assertIs(judged(PRODUCT, "b", facts, self.paper(0, 1)), True)
        for first, second in itertools.product((-2, -1, 0, 1, 2, True, False, None, "0", (0,), 10**99), repeat=2):
            wanted = type(first) is int and type(second) is int and (first, second) == (0, 1)
            with self.subTest((first, second)):
                self.assertIs(judged(PRODUCT, "b", facts, self.paper(first, second)), wanted)

    def test_facts_told_twice(self):
        facts = ["a", "(a -> b)", "a", "(a -> b)"]
        for first, second in itertools.product(range(-1, 5), repeat=2):
            wanted = first in (0, 2) and second in (1, 3)
            self.assertIs(judged(PRODUCT, "b", facts, self.paper(first, second)), wanted)

    def test_lists_and_tuples(self):
        saying, facts = parsed("b"), [parsed("a"), parsed("(a -> b)")]
        for told in (facts, tuple(facts)):
            self.assertIs(is_paper(PRODUCT, saying, told, self.paper(0, 1)), True)
        self.assertIs(is_paper(thing=self.paper(0, 1), facts=facts, saying=saying, shape=PRODUCT), True)

    def test_a_fact_that_is_not_known(self):
        self.assertIs(judged(PRODUCT, "1", ["a"], ("below", 0)), False)
        self.assertIs(judged(PRODUCT, "a", ["(a & b)"], ("place", "a", (("below", 0), ("below", 0), DONE))), False)
        self.assertIs(judged(SUM, "a", ["(a & a)"], ("place", "a", (("below", 0), DONE))), False)
        split = ("split", "(a & a)", ("below", 0), ("below", 0))
        self.assertIs(judged(SUM, "a", ["(a & a)"], ("place", "a", (split, DONE))), True)

    def test_a_saying_that_is_not_known(self):
        self.assertIs(judged(PRODUCT, "(a -> a)", [], DONE), False)
        self.assertIs(judged(SUM, "not 0", [], DONE), False)
        self.assertIs(judged(SUM, "(0 max 1)", [], DONE), True)
        self.assertIs(judged(SUM, "(a max 1)", [], DONE), False)

    def test_parts_of_facts_are_split_and_placed(self):
        paper = ("place", "a", (("split", "not a", ("below", 0), ("below", 1)), ("below", 1)))
        self.assertIs(judged(SUM, "b", ["not not a", "not a"], paper), True)
        self.assertIs(judged(SUM, "b", ["not a", "not not a"], paper), False)
        self.assertIs(judged(SUM, "b", ["not not a"], paper), False)
        self.assertIs(judged(MINIMUM, "b", ["0"], ("place", "b", (("below", 0),) * 3)), True)
        self.assertIs(judged(MINIMUM, "b", ["0"], ("below", 0)), True)
        self.assertIs(judged(MINIMUM, "1", ["(b & c)"], ("place", "b", (DONE,) * 4)), True)


class Names(unittest.TestCase):
    def test_each_name_once(self):
        inner = ("place", "a", (DONE, DONE, DONE))
        self.assertIs(judged(PRODUCT, "(a -> 1)", [], inner), True)
        self.assertIs(judged(PRODUCT, "(a -> 1)", [], ("place", "a", (inner, DONE, DONE))), False)

    def test_names_of_the_saying_or_the_facts_alone(self):
        for name in ("b", "", "A", "ab", "0", "1", "not a", "(a -> 1)", None, 0, True, ("a",), ["a"], {"a": 1}, named("a")):
            self.assertIs(judged(PRODUCT, "(a -> 1)", [], ("place", name, (DONE, DONE, DONE))), False)
        self.assertIs(judged(PRODUCT, "1", [], ("place", "a", (DONE, DONE, DONE))), False)
        self.assertIs(judged(PRODUCT, "1", ["(c -> 0)"], ("place", "c", (DONE, DONE, DONE))), True)

    def test_names_may_be_placed_late_or_not_at_all(self):
        self.assertIs(judged(SUM, "(a max 1)", [], ("place", "a", (DONE, DONE))), True)
        self.assertIs(judged(MINIMUM, "((b & c) max not 0)", ["0"], ("below", 0)), True)

    def test_rows_are_in_the_order_of_the_way(self):
        # Where a is placed first, the rows are a >= 0, 1 - a > 0, b >= 0, 1 - b > 0, and those of the splits.
        told = {"ab": ((0, 0, 0, 1, 0, 1), (1, 0, 0, 0, 0, 1)), "ba": ((0, 1, 0, 0, 0, 1), (0, 0, 1, 0, 0, 1))}
        for order, weights in itertools.product(told, told.values()):
            text = "((a & b) -> a)"
            inner = (
                "split", "(a & b)",
                ("split", text, DONE, ("cannot", weights[0])), ("split", text, DONE, ("cannot", weights[1])),
            )
            at_one = {
                "a": DONE,
                "b": ("split", text, DONE, ("cannot", (0, 0, 1))),
            }
            first, second = order
            paper = ("place", first, (
                ("place", second, (inner, at_one[second])),
                ("place", second, (at_one[first], DONE)),
            ))
            self.assertIs(judged(SUM, text, [], paper), weights == told[order])

    def test_a_side_may_be_closed_before_all_names_are_placed(self):
        text = "((a & 0) -> b)"
        at_sum = (
            "split", "(a & 0)",
            ("cannot", (0, 1, 1)),
            ("place", "b", (("split", text, DONE, ("cannot", (0, 0, 0, 1, 0, 1))), DONE)),
        )
        at_one = ("place", "b", (("split", text, DONE, ("cannot", (1, 0, 1))), DONE))
        self.assertIs(judged(SUM, text, [], ("place", "a", (at_sum, at_one))), True)
        self.assertIs(judged(SUM, text, [], ("place", "a", (at_one, at_sum))), False)


class Splits(unittest.TestCase):
    """Each split of point 13, with and without unknowns, by papers that are written from it."""

    def sayings(self):
        for kind, (x, y) in itertools.product(("&", "->", "min", "max", "same"), itertools.product("ab0", repeat=2)):
            yield f"(({x} {kind} {y}) -> ({x} {kind} {y}))"
        yield "(not a -> not a)"
        yield "not not (a -> (a max 0))"

    def test_each_side_has_its_rows_and_its_worth(self):
        rng = random.Random(13)
        outcomes = {True: 0, False: 0}
        for text in self.sayings():
            saying = parsed(text)
            for shape in (SUM, PRODUCT, ("product", "sum"), ("sum", "product"), ("minimum", "sum")):
                paper = built_paper(shape, saying, [])
                self.assertIs(is_paper(shape, saying, [], paper), True)
                for path in nodes_of(paper):
                    node = part_at(paper, path)
                    for changed in self.changes(node, rng):
                        tree = exchanged(paper, path, changed)
                        wanted = told_is_paper(shape, saying, [], tree)
                        outcomes[wanted] += 1
                        self.assertIs(is_paper(shape, saying, [], tree), wanted, (text, shape, path, changed))
        self.assertGreater(outcomes[True], 100)
        self.assertGreater(outcomes[False], 1000)

    def changes(self, node, rng):
        if node[0] == "cannot":
            for at, weight in enumerate(node[1]):
                for other in (0, 1, weight + 1, weight * 2):
                    yield ("cannot", (*node[1][:at], other, *node[1][at + 1:]))
        elif node[0] == "split":
            sides = list(node[2:])
            rng.shuffle(sides)
            yield (*node[:2], *sides)
            yield node[:-1]
            yield (*node, node[-1])
        else:
            yield rng.choice((("cannot", ()), ("cannot", (1,)), ("cannot", (0, 0, 0, 0, 1)), ("one",), ("below", 0)))

    def test_two_sides_and_three(self):
        self.assertIs(judged(SUM, "(0 same 0)", [], ("split", "(0 same 0)", DONE, DONE)), False)
        self.assertIs(judged(SUM, "(0 -> 0)", [], ("split", "(0 -> 0)", DONE, DONE, ("cannot", (1,)))), False)
        self.assertIs(judged(SUM, "(0 -> 0)", [], ("split", "(0 -> 0)", DONE)), False)
        self.assertIs(judged(SUM, "(0 -> 0)", [], ("split", "(0 -> 0)")), False)
        self.assertIs(judged(SUM, "(0 -> 0)", [], ("split",)), False)

    def test_a_part_is_split_once(self):
        again = ("split", "(0 -> 0)", DONE, ("cannot", (0, 1)))
        self.assertIs(judged(SUM, "(0 -> 0)", [], ("split", "(0 -> 0)", again, ("cannot", (1,)))), False)

    def test_equal_parts_are_known_together(self):
        paper = ("split", "not 0", DONE, ("cannot", (1,)))
        self.assertIs(judged(SUM, "(not 0 & not 0)", ["not 0"], paper), True)

    def test_parts_are_told_by_their_texts_to_the_letter(self):
        for text in ("(0->0)", "( 0 -> 0 )", "(0 -> 0) ", "0 -> 0", "not 0", "(0 -> 1)", "0", "1", "", "a",
                     None, 0, parsed("(0 -> 0)"), ["(0 -> 0)"], ("(0 -> 0)",)):
            paper = ("split", text, DONE, ("cannot", (1,)))
            self.assertIs(judged(SUM, "(0 -> 0)", [], paper), False)

    def test_the_pieces_must_be_known(self):
        for text in ("(a & a)", "((a & a) max 1)", "a", "1"):
            for trees in range(5):
                self.assertIs(judged(SUM, "((a & a) max 1)", [], ("split", text, *(DONE,) * trees)), False)
        inner = ("split", "(a & a)", DONE, DONE)
        self.assertIs(judged(SUM, "((a & a) max 1)", [], inner), False)
        self.assertIs(judged(SUM, "((a & a) max 1)", [], ("place", "a", (inner, DONE))), True)
        deep = ("split", "((a & a) -> a)", DONE, ("cannot", (0, 0, 0)))
        self.assertIs(judged(SUM, "((a & a) -> a)", [], ("place", "a", (deep, DONE))), False)

    def test_denied_and_then_never_are_two_parts(self):
        text = "(not a same (a -> 0))"
        for shape in (SUM, PRODUCT, ("sum", "sum")):
            saying = parsed(text)
            paper = built_paper(shape, saying, [])
            self.assertIs(is_paper(shape, saying, [], paper), True)


class Kinds(unittest.TestCase):
    """Things that are nearly papers, and things that are not at all."""

    def setUp(self):
        self.saying = parsed("(((a & b) -> c) -> (a -> (b -> c)))")
        self.shape = ("sum", "product")
        small = parsed("((a & b) -> a)")
        self.small, self.paper = small, built_paper(self.shape, small, [])
        self.assertIs(is_paper(self.shape, small, [], self.paper), True)

    def judge(self, thing):
        return is_paper(self.shape, self.small, [], thing)

    def test_lists_instead_of_tuples(self):
        for path in nodes_of(self.paper):
            node = part_at(self.paper, path)
            self.assertIs(self.judge(exchanged(self.paper, path, list(node))), False)
            for at, thing in enumerate(node):
                if isinstance(thing, tuple):
                    self.assertIs(self.judge(exchanged(self.paper, (*path, at), list(thing))), False)

    def test_true_is_no_integer(self):
        seen = 0
        for path in nodes_of(self.paper):
            node = part_at(self.paper, path)
            if node[0] == "cannot":
                for at, weight in enumerate(node[1]):
                    for thing in (bool(weight), None, str(weight), -weight - 1, (weight,), [weight], {}, named("a")):
                        seen += 1
                        self.assertIs(self.judge(exchanged(self.paper, (*path, 1, at), thing)), False)
        self.assertGreater(seen, 20)

    def test_more_or_fewer_things_in_a_node(self):
        for path in nodes_of(self.paper):
            node = part_at(self.paper, path)
            for changed in ((*node, ("one",)), (*node, None), node[:-1], node[1:], (node,), ()):
                self.assertIs(self.judge(exchanged(self.paper, path, changed)), False, (path, changed))

    def test_other_words(self):
        for word in ("", "One", "one ", "yes", "places", "splits", "sum", None, 1, True, ("one",), ["one"], named("a")):
            for path in nodes_of(self.paper):
                node = part_at(self.paper, path)
                self.assertIs(self.judge(exchanged(self.paper, path, (word, *node[1:]))), False)

    def test_anything_at_the_top(self):
        for thing in [*anything(), named("a"), sums(2), {"place": "a", "trees": (DONE,)}, self.saying, self.shape]:
            before = copy.deepcopy(thing)
            for shape in (self.shape, SUM, MINIMUM):
                self.assertIs(is_paper(shape, self.saying, [self.small], thing), False)
                self.assertIs(is_paper(shape, never(), [], thing), False)
            self.assertEqual(thing, before)

    def test_anything_as_a_part(self):
        paths = nodes_of(self.paper)
        rng = random.Random(14)
        for thing in [*anything(), named("a"), sums(2)]:
            for path in [(), *rng.sample(paths, 8)]:
                node = part_at(self.paper, path)
                self.assertIs(self.judge(exchanged(self.paper, path, thing)), False)
                at = rng.randrange(len(node))
                self.assertIs(self.judge(exchanged(self.paper, (*path, at), thing)), False)

    def test_deep_things(self):
        thing = DONE
        for _ in range(200_000):
            thing = ("split", "(a & b)", thing, thing)
        self.assertIs(self.judge(thing), False)
        thing = None
        for _ in range(50_000):
            thing = (thing,)
        self.assertIs(self.judge(thing), False)
        self.assertIs(self.judge(("cannot", thing)), False)
        while thing:
            thing = thing[0]

    def test_nothing_is_changed(self):
        facts = [named("a"), named("b")]
        before = copy.deepcopy(self.paper)
        for _ in range(2):
            self.assertIs(is_paper(self.shape, self.small, facts, self.paper), True)
        self.assertEqual(self.paper, before)
        self.assertEqual([str(fact) for fact in facts], ["a", "b"])


class WrongArguments(unittest.TestCase):
    def refused(self, wanted, *things):
        with self.assertRaises(wanted) as caught:
            is_paper(*things)
        return caught.exception

    def test_wrong_shapes(self):
        for thing in not_shapes():
            before = copy.deepcopy(thing)
            with self.subTest(repr(thing)[:80]):
                self.assertIs(self.refused(errors.InvalidShape, thing, always(), [], DONE).thing, thing)
                self.assertIs(self.refused(errors.InvalidShape, thing, None, None, None).thing, thing)
                self.assertEqual(thing, before)

    def test_wrong_sayings(self):
        for thing in [*not_sayings(), sums(1), Saying]:
            self.assertIs(self.refused(errors.InvalidSaying, SUM, thing, [], DONE).thing, thing)
            self.assertIs(self.refused(errors.InvalidSaying, SUM, thing, None, None).thing, thing)

    def test_wrong_facts(self):
        for thing in not_lists():
            self.assertIsNone(self.refused(errors.InvalidFacts, SUM, always(), thing, DONE).place)
        for thing in not_sayings():
            self.assertEqual(self.refused(errors.InvalidFacts, SUM, always(), [thing], DONE).place, 0)
            self.assertEqual(self.refused(errors.InvalidFacts, SUM, always(), (always(), thing, None), None).place, 1)


class Drawn(unittest.TestCase):
    def test_drawn_papers(self):
        rng = random.Random(140)
        judged_so = {True: 0, False: 0}
        papers = 0
        while papers < 250:
            names = "abc"[: rng.choice((1, 2, 2, 3))]
            shape = drawn_shape(rng, 2 if len(names) == 3 else 3)
            saying = drawn_saying(rng, rng.randint(3, 9), names)
            facts = [drawn_saying(rng, rng.randint(1, 6), names) for _ in range(rng.choice((0, 0, 1, 2)))]
            paper = built_paper(shape, saying, facts, rng)
            self.assertEqual(paper is not None, follows_in(shape, saying, facts))
            if paper is None or paper == DONE:
                continue
            papers += 1
            self.assertIs(is_paper(shape, saying, facts, paper), True)
            paths = nodes_of(paper)
            for _ in range(12):
                changed = self.changed(paper, rng.choice(paths), rng.choice(paths), rng)
                wanted = told_is_paper(shape, saying, facts, changed)
                judged_so[wanted] += 1
                self.assertIs(is_paper(shape, saying, facts, changed), wanted, (shape, str(saying), changed))
            other = drawn_shape(rng, 3)
            wanted = told_is_paper(other, saying, facts, paper)
            self.assertIs(is_paper(other, saying, facts, paper), wanted)
        self.assertGreater(judged_so[True], 100)
        self.assertGreater(judged_so[False], 1000)

    def changed(self, paper, path, second, rng):
        node = part_at(paper, path)
        way = rng.randrange(6)
        if way == 0:
            return exchanged(paper, path, part_at(paper, second))
        if way == 1 and node[0] == "cannot":
            weights = [max(0, weight + rng.choice((-1, 0, 0, 1))) for weight in node[1]]
            return exchanged(paper, path, ("cannot", tuple(weights)))
        if way == 2 and node[0] == "split":
            sides = list(node[2:])
            rng.shuffle(sides)
            return exchanged(paper, path, (*node[:2], *sides))
        if way == 3 and node[0] == "place":
            trees = list(node[2])
            rng.shuffle(trees)
            return exchanged(paper, path, ("place", node[1], tuple(trees)))
        if way == 4:
            return exchanged(paper, path, ("below", rng.randint(-1, 2)))
        return exchanged(paper, path, DONE)

    def test_a_paper_shows_that_it_follows(self):
        # Whatever is exchanged in a paper: if it is one still, the saying follows.
        rng = random.Random(141)
        seen = 0
        for _ in range(500):
            shape = drawn_shape(rng, 2)
            paper = built_paper(shape, drawn_saying(rng, rng.randint(3, 6), "a"), [])
            for other in [drawn_saying(rng, rng.randint(3, 6), "a") for _ in range(6)]:
                if paper not in (None, DONE) and is_paper(shape, other, [], paper):
                    seen += 1
                    self.assertIs(follows_in(shape, other), True)
        self.assertGreater(seen, 20)

    def test_the_places_of_the_document(self):
        self.assertEqual(len(told_places(("minimum", "product", "minimum", "sum"), 3)), 4 + 2 + 3 + 1 + 1)
        for shape in (("minimum", "product", "minimum", "sum"), ("sum", "minimum"), ("product", "product")):
            for names, text in (
                ("a", "(a max 1)"), ("ab", "((a max 1) & (b max 1))"), ("abc", "((a max 1) & ((b max 1) & (c max 1)))"),
            ):
                count = len(told_places(shape, len(names)))
                for trees in (count - 1, count, count + 1):
                    self.assertIs(judged(shape, text, [], self.tree(names, trees)), trees == count)

    def tree(self, names, count):
        # The saying is known, and one, as soon as all names are placed and nothing must be split.
        if not names:
            return DONE
        return ("place", names[0], (self.tree(names[1:], count),) * count)


if __name__ == "__main__":
    unittest.main()
