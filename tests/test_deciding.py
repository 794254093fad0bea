"""Points 10 to 13 and the section "gradetalk/deciding.py" of the interface."""

import copy
import itertools
import random
import unittest

from gradetalk import deciding, errors
from gradetalk.deciding import break_in, break_of, follows, follows_in
from gradetalk.degrees import is_degree
from gradetalk.joinings import Joining, sums
from gradetalk.sayings import Saying, always, named, never
from gradetalk.texts import parsed
from tests.draws import STRETCHES, drawn_degrees, drawn_saying, drawn_shape, joining_of
from tests.oracle import built_paper, letters_of, pieces_of, told_is_break, told_shape
from tests.things import anything, not_lists, not_sayings, not_shapes

SUM, PRODUCT, MINIMUM = ("sum",), ("product",), ("minimum",)

# Sayings that are known to follow under all joinings.
KNOWN = (
    "((a -> b) -> ((b -> c) -> (a -> c)))",
    "((a & b) -> a)",
    "((a & b) -> (b & a))",
    "((a & (a -> b)) -> (b & (b -> a)))",
    "((a -> (b -> c)) same ((a & b) -> c))",
    "(((a -> b) -> c) -> (((b -> a) -> c) -> c))",
    "(0 -> a)",
    "(a -> 1)",
    "((a -> b) max (b -> a))",
    "((a min b) same (a & (a -> b)))",
    "((a max b) same (((a -> b) -> b) min ((b -> a) -> a)))",
    "((a same b) same ((a -> b) min (b -> a)))",
    "((a same b) same ((a -> b) & (b -> a)))",
    "(not a same (a -> 0))",
    "(not not not a same not a)",
    "(a -> not not a)",
    "((a & (b max c)) same ((a & b) max (a & c)))",
    "((a & (b & c)) same ((a & b) & c))",
    "((a & 1) same a)",
    "not 0",
    "1",
)

# The shapes in which these follow are known.
SPECIAL = (
    ("(not not a -> a)", lambda shape: shape == SUM),
    ("(a -> (a & a))", lambda shape: shape == MINIMUM),
    ("(not not c -> (((a & c) -> (b & c)) -> (a -> b)))", lambda shape: shape in (SUM, PRODUCT)),
    ("((not c max not not c) min (not not c -> (((a & c) -> (b & c)) -> (a -> b))))", lambda shape: shape == PRODUCT),
    ("((a min not a) -> 0)", lambda shape: shape[0] != "sum"),
    ("(not a max not not a)", lambda shape: shape[0] != "sum"),
    ("(a max not a)", lambda shape: False),
    ("a", lambda shape: False),
    ("0", lambda shape: False),
    ("((a & a) -> (a & (a & a)))", lambda shape: shape == MINIMUM),
)

# Facts and sayings that need a stretch more for each name to be broken: with all the facts a lies above
# the lowest stretch, b above the one of a, and c above the one of b, unless one of them is 1.
STEPS = (
    ("not not a", "a"),
    ("((b -> a) -> a)", "(b max a)"),
    ("((c -> b) -> b)", "(c max (b max a))"),
)


def shapes_up_to(most):
    found = []
    for length in range(1, most + 1):
        for shape in itertools.product(STRETCHES, repeat=length):
            if ("minimum", "minimum") not in zip(shape, shape[1:]):
                found.append(shape)
    return found


class Deciding(unittest.TestCase):
    def check_break(self, told, saying, facts, shape=None):
        self.assertIs(type(told), tuple)
        joining, degrees = told
        self.assertIsInstance(joining, Joining)
        self.assertIs(type(degrees), dict)
        self.assertEqual(sorted(degrees), letters_of([saying, *facts]))
        for worth in degrees.values():
            self.assertTrue(is_degree(worth))
            self.assertLess(worth[1], 10**4000)
        if shape is not None:
            self.assertEqual(joining.shape, shape)
            self.assertEqual(told_shape(pieces_of(joining)), shape)
        self.assertIs(joining.is_break(saying, facts, degrees), True)
        self.assertIs(told_is_break(pieces_of(joining), saying, facts, degrees), True)

    def check_no_break(self, saying, facts, shapes, rng):
        names = letters_of([saying, *facts])
        for shape in shapes:
            joining = joining_of(shape, rng)
            for bottom in (2, 4, 6, len(shape), 2 * len(shape), 60):
                degrees = drawn_degrees(rng, names, bottom)
                self.assertIs(joining.is_break(saying, facts, degrees), False, (shape, str(saying), degrees))

    def decide(self, shape, text, facts=()):
        saying, facts = parsed(text), [parsed(fact) for fact in facts]
        told = break_in(shape, saying, facts)
        self.assertIs(follows_in(shape, saying, facts), told is None)
        if told is not None:
            self.check_break(told, saying, facts, shape)
        return told is None

    def decide_all(self, text, facts=()):
        saying, facts = parsed(text), [parsed(fact) for fact in facts]
        told = break_of(saying, facts)
        self.assertIs(follows(saying, facts), told is None)
        if told is not None:
            self.check_break(told, saying, facts)
        return told is None


class Known(Deciding):
    def test_under_all_joinings(self):
        rng = random.Random(12)
        for text in KNOWN:
            with self.subTest(text):
                self.assertIs(self.decide_all(text), True)
                self.check_no_break(parsed(text), [], shapes_up_to(3), rng)

    def test_in_every_shape(self):
        for text in KNOWN:
            for shape in shapes_up_to(3):
                self.assertIs(self.decide(shape, text), True, (shape, text))

    def test_in_some_shapes_alone(self):
        for text, wanted in SPECIAL:
            self.assertIs(self.decide_all(text), False)
            for shape in shapes_up_to(3):
                with self.subTest((shape, text)):
                    self.assertIs(self.decide(shape, text), wanted(shape))

    def test_what_needs_several_sums(self):
        for count in range(1, 4):
            facts, text = [fact for fact, _ in STEPS[:count]], STEPS[count - 1][1]
            self.assertIs(self.decide_all(text, facts), False)
            for many in range(1, 6):
                self.assertIs(self.decide(("sum",) * many, text, facts), many <= count, (text, many))
        # The same without facts, for one name and for two.
        lower, higher = "(not not a -> a)", "((((b -> a) -> a) -> b) max (b -> a))"
        for text, count in ((lower, 1), (f"({lower} max {higher})", 2)):
            self.assertIs(self.decide_all(text), False)
            for many in range(1, 6):
                self.assertIs(self.decide(("sum",) * many, text), many <= count, (text, many))

    def test_the_order_of_the_stretches_counts(self):
        # Broken just if not a can lie within a stretch in which both loses something.
        text = "(not a -> (not a & not a))"
        for shape in shapes_up_to(3):
            self.assertIs(self.decide(shape, text), shape[0] != "sum")
        # Broken wherever b can lie below a, but not in the same sum.
        text = "(((a -> b) -> b) -> (a max b))"
        for shape in shapes_up_to(3):
            self.assertIs(self.decide(shape, text), shape == SUM, shape)

    def test_names_within_a_minimum(self):
        # Broken just if the names lie above one another, a above never, and below 1.
        text = "((((c -> b) max (b -> a)) max (a -> 0)) max c)"
        for shape in shapes_up_to(3):
            self.assertIs(self.decide(shape, text), False)
        # Broken just if they are idempotent, too: at the ends of stretches and within a minimum.
        facts = ["(a -> (a & a))", "(b -> (b & b))"]
        text = "((b -> a) max ((a -> 0) max b))"
        for shape in shapes_up_to(3):
            self.assertIs(self.decide(shape, text, facts), "minimum" not in shape and len(shape) < 3, shape)


class Facts(Deciding):
    def test_what_follows_from_facts(self):
        for facts, text in (
            (["a"], "a"),
            (["a"], "(a & a)"),
            (["a", "(a -> b)"], "b"),
            (["a", "b"], "(a & b)"),
            (["(a & b)"], "a"),
            (["(a min b)"], "(a & b)"),
            (["(a same b)", "(b same c)"], "(a same c)"),
            (["(a -> b)", "(b -> c)", "(c -> a)"], "(a same c)"),
            (["(a max not a)"], "(not not a -> a)"),
            (["(a max b)", "(a -> c)", "(b -> c)"], "c"),
            (["0"], "a"),
            (["a", "not a"], "b"),
            (["(a & not a)"], "0"),
            (["not a"], "(a -> b)"),
            (["(a -> (a & a))", "(b -> (b & b))"], "((a min b) same (a & b))"),
        ):
            with self.subTest((facts, text)):
                self.assertIs(self.decide_all(text, facts), True)
                for shape in shapes_up_to(2):
                    self.assertIs(self.decide(shape, text, facts), True)
                self.check_no_break(parsed(text), [parsed(fact) for fact in facts], shapes_up_to(3), random.Random(text))

    def test_what_does_not(self):
        for facts, text in (
            ([], "a"),
            (["b"], "a"),
            (["(a -> b)"], "(b -> a)"),
            (["(a max b)"], "a"),
            (["(a -> b)", "b"], "a"),
            (["not not a"], "a"),
            (["(a -> (a & a))"], "(a max not a)"),
            (["a", "b", "(a & b)"], "c"),
            (["1"], "0"),
            (["((a & a) same a)", "(not not a -> a)"], "(b -> a)"),
        ):
            with self.subTest((facts, text)):
                self.assertIs(self.decide_all(text, facts), False)

    def test_in_a_shape_alone(self):
        self.assertIs(self.decide(SUM, "(b -> b)", ["a"]), True)
        self.assertIs(self.decide(SUM, "a", ["not not a"]), True)
        self.assertIs(self.decide(PRODUCT, "a", ["not not a"]), False)
        # An a with a & a the same as a is 0 or 1 in one sum and in one product.
        for shape in (SUM, PRODUCT):
            self.assertIs(self.decide(shape, "(a max not a)", ["(a -> (a & a))"]), True)
        self.assertIs(self.decide(("product", "sum"), "(a max not a)", ["(a -> (a & a))"]), False)
        self.assertIs(self.decide(MINIMUM, "(a max not a)", ["(a -> (a & a))"]), False)
        # A degree that is its own denied one.
        self.assertIs(self.decide(SUM, "0", ["(a same not a)"]), False)
        self.assertIs(self.decide(("sum", "product"), "0", ["(a same not a)"]), False)
        self.assertIs(self.decide(PRODUCT, "0", ["(a same not a)"]), True)
        self.assertIs(self.decide(("minimum", "sum"), "0", ["(a same not a)"]), True)

    def test_degrees_that_facts_tell(self):
        told = break_in(SUM, never(), [parsed("((not b & not b) same b)")])
        self.assertEqual(told, (sums(1), {"b": (1, 3)}))
        told = break_in(SUM, never(), [parsed("(a same not a)")])
        self.assertEqual(told, (sums(1), {"a": (1, 2)}))
        for shape in (PRODUCT, ("sum", "product"), ("minimum", "product", "product", "minimum")):
            facts = [parsed("(b same (a & a))"), parsed("(c same (a & (b & b)))")]
            # Idempotent degrees will not do for this one.
            joining, degrees = break_in(shape, parsed("((a -> (a & a)) max not not 0)"), facts)
            a, b, c = degrees["a"], degrees["b"], degrees["c"]
            self.assertEqual((joining.both(a, a), joining.both(a, joining.both(b, b))), (b, c))
            self.assertNotEqual(a, b)
        a, b, c = break_in(PRODUCT, parsed("(a -> (a & a))"), facts)[1].values()
        self.assertEqual((b, c), ((a[0] ** 2, a[1] ** 2), (a[0] ** 5, a[1] ** 5)))
        facts = [parsed("(a same not a)"), parsed("(b same (c -> a))"), parsed("(c same (b -> a))"), parsed("(b same c)")]
        self.assertEqual(break_in(SUM, never(), facts), (sums(1), {"a": (1, 2), "b": (3, 4), "c": (3, 4)}))

    def test_no_facts(self):
        for facts in ((), []):
            self.assertIs(follows(named("a"), facts), False)
            self.assertIs(follows(always(), facts), True)
            self.assertIs(follows_in(SUM, always(), facts), True)
        self.assertIs(follows(always()), True)
        self.assertIs(follows_in(SUM, never()), False)
        self.assertIsNone(break_of(always()))
        self.assertIsNone(break_in(SUM, always()))

    def test_no_names(self):
        for text, wanted in (("0", False), ("1", True), ("not 0", True), ("not 1", False), ("(0 & 0)", False), ("(0 same 0)", True),
                             ("(0 min 1)", False), ("(0 max 1)", True), ("(1 & (0 -> 0))", True), ("(0 same (0 & 0))", True)):
            self.assertIs(self.decide_all(text), wanted)
            for shape in shapes_up_to(3):
                self.assertIs(self.decide(shape, text), wanted)
        self.assertEqual(break_in(("sum", "minimum"), never())[1], {})
        self.assertEqual(break_of(never())[1], {})

    def test_facts_told_twice(self):
        for facts in (["a", "a"], ["a", "(a -> b)", "a", "(a -> b)"], ["(a -> b)"] * 6):
            self.assertIs(self.decide_all("b", facts), facts[1] == "(a -> b)" and facts[0] == "a")
            self.assertIs(self.decide(PRODUCT, "b", facts), facts[1] == "(a -> b)" and facts[0] == "a")

    def test_names_of_facts_alone(self):
        told = break_of(named("b"), [named("z"), named("m") >> named("m")])
        self.assertEqual(sorted(told[1]), ["b", "m", "z"])
        told = break_in(MINIMUM, named("b"), [named("z") >> named("z")])
        self.assertEqual(sorted(told[1]), ["b", "z"])

    def test_how_many_sums_are_enough(self):
        # For n names, those of the facts among them, n + 1 sums tell what all joinings do.
        rng = random.Random(120)
        for _ in range(300):
            names = "abc"[: rng.randint(1, 3)]
            saying = drawn_saying(rng, rng.randint(1, 9), names)
            facts = [drawn_saying(rng, rng.randint(1, 5), names) for _ in range(rng.randint(0, 2))]
            many = len(letters_of([saying, *facts]))
            self.assertIs(follows(saying, facts), follows_in(("sum",) * (many + 1), saying, facts))
            if follows(saying, facts):
                self.assertIs(follows_in(drawn_shape(rng, 4), saying, facts), True)


class Arguments(Deciding):
    def test_by_name(self):
        a = named("a")
        self.assertIs(follows_in(shape=SUM, saying=a, facts=[a]), True)
        self.assertIs(follows(saying=a, facts=(a,)), True)
        self.assertIsNone(break_in(facts=[a], saying=a, shape=SUM))
        self.assertIsNone(break_of(facts=[a], saying=a))

    def test_nothing_is_changed(self):
        facts = [parsed("(a -> b)"), parsed("b")]
        shape, saying = ("sum", "product"), parsed("(a & c)")
        texts = [str(fact) for fact in facts]
        for call in (follows_in, break_in):
            call(shape, saying, facts)
        for call in (follows, break_of):
            call(saying, facts)
        self.assertEqual([str(fact) for fact in facts], texts)
        self.assertEqual(str(saying), "(a & c)")

    def test_told_again_and_anew(self):
        saying, facts = parsed("((a & b) -> c)"), [parsed("(a -> b)")]
        for call in (lambda: break_of(saying, facts), lambda: break_in(("sum", "minimum"), saying, facts)):
            first, second = call(), call()
            self.assertEqual(first, second)
            self.assertIsNot(first[1], second[1])
            kept = dict(first[1])
            first[1].clear()
            self.assertEqual(second[1], kept)
            self.assertEqual(call()[1], kept)

    def test_what_is_told_may_be_passed_again(self):
        saying, facts = parsed(STEPS[2][1]), [parsed(fact) for fact, _ in STEPS]
        joining, degrees = break_of(saying, facts)
        self.assertEqual(Joining(joining.pieces), joining)
        self.assertIs(joining.is_break(saying, facts, degrees), True)
        self.assertIs(follows_in(joining.shape, saying, facts), False)

    def test_more_names_than_the_limits(self):
        saying = named("a")
        for letter in "bcdef":
            saying = saying & named(letter)
        told = break_of(saying)
        self.assertEqual(sorted(told[1]), list("abcdef"))
        self.check_break(told, saying, [])
        self.check_break(break_in(("minimum", "product"), saying, ()), saying, [], ("minimum", "product"))


class WrongArguments(unittest.TestCase):
    def refused(self, wanted, call, *things):
        with self.assertRaises(wanted) as caught:
            call(*things)
        return caught.exception

    def test_wrong_shapes(self):
        for thing in not_shapes():
            before = copy.deepcopy(thing)
            for call in (follows_in, break_in):
                with self.subTest((call.__name__, repr(thing)[:80])):
                    self.assertIs(self.refused(errors.InvalidShape, call, thing, always(), []).thing, thing)
                    self.assertIs(self.refused(errors.InvalidShape, call, thing, always()).thing, thing)
                    self.assertIs(self.refused(errors.InvalidShape, call, thing, None, None).thing, thing)
                    self.assertIs(self.refused(errors.InvalidShape, call, thing, "a", [None]).thing, thing)
            self.assertEqual(thing, before)

    def test_wrong_sayings(self):
        for thing in [*not_sayings(), sums(1), Saying]:
            for call in (follows_in, break_in):
                self.assertIs(self.refused(errors.InvalidSaying, call, SUM, thing).thing, thing)
                self.assertIs(self.refused(errors.InvalidSaying, call, SUM, thing, None).thing, thing)
            for call in (follows, break_of):
                self.assertIs(self.refused(errors.InvalidSaying, call, thing).thing, thing)
                self.assertIs(self.refused(errors.InvalidSaying, call, thing, [None]).thing, thing)

    def test_wrong_facts(self):
        a = named("a")
        for thing in [*not_lists(), sums(1)]:
            for call in (follows_in, break_in):
                self.assertIsNone(self.refused(errors.InvalidFacts, call, SUM, a, thing).place)
            for call in (follows, break_of):
                self.assertIsNone(self.refused(errors.InvalidFacts, call, a, thing).place)
        for thing in [*not_sayings(), sums(1)]:
            for facts, place in (([thing], 0), ((a, thing), 1), ([a, a, thing, None], 2)):
                for call in (follows_in, break_in):
                    self.assertEqual(self.refused(errors.InvalidFacts, call, SUM, always(), facts).place, place)
                for call in (follows, break_of):
                    self.assertEqual(self.refused(errors.InvalidFacts, call, always(), facts).place, place)

    def test_every_thing_in_every_place(self):
        for thing in anything():
            if thing not in ((), []):
                self.assertRaises(errors.GradeError, break_in, thing, thing, thing)
                self.assertRaises(errors.GradeError, break_of, thing, thing)

    def test_it_is_defined_in_its_module(self):
        for call in (follows_in, break_in, follows, break_of):
            self.assertEqual(call.__module__, deciding.__name__)


class Drawn(Deciding):
    def draw(self, rng):
        names = "abc"[: rng.choice((1, 2, 2, 3))]
        shape = drawn_shape(rng, 4 if len(names) == 3 else 5)
        facts = [drawn_saying(rng, rng.randint(1, 5), names) for _ in range(rng.choice((0, 0, 1, 2, 3)))]
        left = 21 - sum(fact.size for fact in facts)
        return shape, drawn_saying(rng, rng.randint(1, min(left, 12)), names), facts

    def test_breaks_and_no_breaks(self):
        rng = random.Random(110)
        following = 0
        for _ in range(1500):
            shape, saying, facts = self.draw(rng)
            told = break_in(shape, saying, facts)
            if told is None:
                following += 1
                self.check_no_break(saying, facts, [shape], rng)
            else:
                self.check_break(told, saying, facts, shape)
        self.assertTrue(200 < following < 1300, following)

    def test_all_joinings(self):
        rng = random.Random(111)
        following = 0
        for _ in range(700):
            _, saying, facts = self.draw(rng)
            told = break_of(saying, facts)
            if told is None:
                following += 1
                self.check_no_break(saying, facts, [drawn_shape(rng, 6) for _ in range(4)], rng)
            else:
                self.check_break(told, saying, facts)
        self.assertTrue(80 < following < 620, following)

    def test_against_papers(self):
        # Where there is a paper, it follows; the oracle that writes it shares nothing with the package.
        rng = random.Random(112)
        for _ in range(400):
            names = "abc"[: rng.choice((1, 1, 2, 2, 3))]
            shape = drawn_shape(rng, 2 if len(names) == 3 else 4)
            saying = drawn_saying(rng, rng.randint(1, 9), names)
            facts = [drawn_saying(rng, rng.randint(1, 6), names) for _ in range(rng.choice((0, 0, 1, 2)))]
            paper = built_paper(shape, saying, facts)
            self.assertIs(follows_in(shape, saying, facts), paper is not None, (shape, str(saying)))

    def test_a_renaming_of_degrees_changes_nothing(self):
        # Joinings of one shape differ by a renaming, so the widths of the stretches do not matter.
        rng = random.Random(113)
        for _ in range(150):
            shape, saying, facts = self.draw(rng)
            if follows_in(shape, saying, facts):
                for _ in range(10):
                    joining = joining_of(shape, rng)
                    degrees = drawn_degrees(rng, letters_of([saying, *facts]), rng.choice((1, 2, 3, 8, 60)))
                    self.assertIs(joining.is_break(saying, facts, degrees), False)


if __name__ == "__main__":
    unittest.main()
