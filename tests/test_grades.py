"""Points 15 to 17 and the section "gradetalk/grades.py" of the interface."""

import itertools
import random
import unittest

from gradetalk import errors, grades
from gradetalk.deciding import follows, follows_in
from gradetalk.degrees import is_degree
from gradetalk.grades import fewest, grade, least_facts, uses
from gradetalk.joinings import Joining, sums
from gradetalk.sayings import Saying, always, named, never
from gradetalk.texts import parsed
from tests.draws import drawn_saying
from tests.oracle import letters_of, pieces_of, told_both, told_is_break, told_then, told_worth
from tests.test_deciding import KNOWN, STEPS, shapes_up_to
from tests.things import BINARY, not_lists, not_sayings


def read(texts):
    return [parsed(text) for text in texts]


def drawn(rng, most=12):
    """A saying and facts with at most three names."""
    names = "abc"[: rng.choice((1, 2, 2, 3))]
    kinds = rng.choice((BINARY, BINARY, ("both", "then"), ("same", "both"), ("lower", "higher", "then")))
    facts = [drawn_saying(rng, rng.randint(1, 5), names, kinds) for _ in range(rng.choice((0, 0, 1, 2, 3)))]
    return drawn_saying(rng, rng.randint(1, most), names, kinds), facts


def pieces_in(shape):
    """How many pieces a joining of the shape has."""
    return sum(kind != "minimum" for kind in shape)


class Refusing(unittest.TestCase):
    def refused(self, wanted, call, *things):
        with self.assertRaises(wanted) as caught:
            call(*things)
        return caught.exception

    def check_facts_refused(self, call, *ahead):
        for thing in [*not_lists(), sums(1)]:
            self.assertIsNone(self.refused(errors.InvalidFacts, call, *ahead, thing).place)
        for thing in [*not_sayings(), sums(1)]:
            for facts, place in (([thing], 0), ((named("a"), thing), 1), ([named("a")] * 2 + [thing, None], 2)):
                self.assertEqual(self.refused(errors.InvalidFacts, call, *ahead, facts).place, place)


class Grade(Refusing):
    def test_known_grades(self):
        for count in range(1, 4):
            facts, text = read([fact for fact, _ in STEPS[:count]]), STEPS[count - 1][1]
            self.assertEqual(grade(parsed(text), facts), count + 1)
        lower, higher = "(not not a -> a)", "((((b -> a) -> a) -> b) max (b -> a))"
        self.assertEqual(grade(parsed(lower)), 2)
        self.assertEqual(grade(parsed(f"({lower} max {higher})")), 3)
        for text, wanted in (("a", 1), ("0", 1), ("not 1", 1), ("(a -> (a & a))", 1), ("(a max not a)", 1),
                             ("((a & a) -> (a & (a & a)))", 1), ("1", None), ("(0 -> a)", None), ("not 0", None)):
            self.assertEqual(grade(parsed(text)), wanted, text)

    def test_none_just_if_it_follows(self):
        for text in KNOWN:
            self.assertIsNone(grade(parsed(text)))
            self.assertIsNone(grade(parsed(text), [named("d")]))
        self.assertIsNone(grade(named("b"), read(["a", "(a -> b)"])))
        self.assertIsNone(grade(named("b"), [never()]))
        self.assertEqual(grade(named("b"), [named("a")] * 2), 1)

    def test_drawn_ones(self):
        rng = random.Random(150)
        seen = {}
        for _ in range(400):
            saying, facts = drawn(rng)
            told = grade(saying, facts)
            self.assertIs(told is None, follows(saying, facts))
            many = len(letters_of([saying, *facts])) + 1
            broken = [k for k in range(1, many + 1) if not follows_in(("sum",) * k, saying, facts)]
            self.assertEqual(told, min(broken, default=None))
            # From the grade on there is a break in each number of sums.
            self.assertEqual(broken, list(range(told or many + 1, many + 1)))
            seen[told] = seen.get(told, 0) + 1
        self.assertTrue(seen[None] > 50 and seen[1] > 50 and seen[2] > 3, seen)

    def test_arguments(self):
        a = named("a")
        self.assertEqual(grade(saying=a, facts=(a >> a,)), 1)
        for thing in [*not_sayings(), sums(1), Saying]:
            self.assertIs(self.refused(errors.InvalidSaying, grade, thing).thing, thing)
            self.assertIs(self.refused(errors.InvalidSaying, grade, thing, None).thing, thing)
        self.check_facts_refused(grade, a)
        self.check_facts_refused(grade, always())


class Fewest(Refusing):
    def test_known_ones(self):
        for text, wanted in (
            ("a", 0), ("0", 0), ("(a max not a)", 0), ("(not not a -> a)", 0), ("(a -> b)", 0),
            ("(a -> (a & a))", 1), ("((a & a) -> (a & (a & a)))", 1), ("((a min b) -> (a & b))", 1),
            ("(not a max not not a)", 1), ("1", None), ("(a -> a)", None),
            ("((a -> (a & a)) max (b -> (b & b)))", 1),
            ("((((b -> a) -> a) -> b) max ((a -> (a & a)) max (b -> (b & b))))", 1),
        ):
            self.assertEqual(fewest(parsed(text)), wanted, text)
            self.assertEqual(fewest(parsed(text), read(["1"])), wanted, text)

    def test_with_facts(self):
        self.assertEqual(fewest(never(), read(["(a same not a)"])), 1)
        self.assertEqual(fewest(named("b"), read(["(a same not a)"])), 1)
        self.assertEqual(fewest(named("b"), read(["(a same not a)", "b"])), None)
        # Of two that lose something, one in each piece, or with a third one in a third piece.
        facts = ["((b -> a) -> a)", "not not a"]
        text = "(b max (a max ((a -> (a & a)) max (b -> (b & b)))))"
        self.assertEqual(fewest(parsed(text), read(facts)), 2)
        self.assertEqual(fewest(parsed(text), read(facts[1:])), 1)
        self.assertEqual(fewest(parsed("(not a max (not not a max (a -> (a & a))))")), 1)

    def test_none_just_if_it_follows(self):
        for text in KNOWN:
            self.assertIsNone(fewest(parsed(text)))
        self.assertIsNone(fewest(named("b"), read(["a", "(a -> b)"])))

    def test_drawn_ones(self):
        # Products and gaps of all kinds tried, too.
        rng = random.Random(151)
        shapes = sorted(shapes_up_to(5), key=pieces_in)
        seen = {}
        for _ in range(150):
            saying, facts = drawn(rng, 6)
            for text in ("(a -> (a & a))", "(b -> (b & b))"):
                if rng.random() < 0.6:
                    saying = saying.higher(parsed(text)) if rng.random() < 0.7 else parsed(text)
            for text in ("(a same not a)", "not not b"):
                if rng.random() < 0.2:
                    facts = [*facts, parsed(text)]
            names = letters_of([saying, *facts])
            told = fewest(saying, facts)
            self.assertIs(told is None, follows(saying, facts))
            if len(names) == 3 and told is not None and told > 1:
                continue
            most = 5 if len(names) < 3 else 3
            fewer = [shape for shape in shapes if len(shape) <= most and (told is None or pieces_in(shape) < told)]
            for shape in rng.sample(fewer, min(10, len(fewer))):
                self.assertIs(follows_in(shape, saying, facts), True, (shape, str(saying)))
            if told is not None:
                fits = [shape for shape in shapes if pieces_in(shape) == told]
                self.assertTrue(any(not follows_in(shape, saying, facts) for shape in fits))
            seen[told] = seen.get(told, 0) + 1
        self.assertTrue(seen[None] > 20 and seen[0] > 5 and seen[1] > 20, seen)

    def test_where_never_lies(self):
        lowest, higher = "(a same not a)", "not not b"
        # An a that is half denied lies in a sum that is the lowest stretch.
        self.assertEqual(fewest(never(), read([lowest])), 1)
        # A b that is not denied, and loses something by both, does not lie in such a sum.
        self.assertEqual(fewest(parsed("(b -> (b & b))"), read([higher])), 1)
        self.assertEqual(fewest(parsed("(b -> (b & b))"), read([lowest, higher])), 2)
        self.assertEqual(fewest(parsed("b"), read([lowest, higher])), 1)
        # One above the other, both losing something.
        facts = read(["((c -> b) -> b)"])
        self.assertEqual(fewest(parsed("((b -> (b & b)) max (c -> (c & c)))"), facts), 2)

    def test_arguments(self):
        a = named("a")
        self.assertEqual(fewest(saying=a, facts=(a >> a,)), 0)
        for thing in [*not_sayings(), sums(1), Saying]:
            self.assertIs(self.refused(errors.InvalidSaying, fewest, thing).thing, thing)
            self.assertIs(self.refused(errors.InvalidSaying, fewest, thing, None).thing, thing)
        self.check_facts_refused(fewest, a)


class Uses(Refusing):
    def check(self, fact, saying, facts, told):
        """Point 16 worked out: the break is one of x1 then the saying."""
        self.assertIs(type(told), tuple)
        count, found = told
        self.assertIs(type(count), int)
        if count == 0:
            self.assertIsNone(found)
            self.assertIs(follows(saying, facts), True)
            return
        self.assertIs(type(found), tuple)
        joining, degrees = found
        self.assertIsInstance(joining, Joining)
        self.assertIs(type(degrees), dict)
        self.assertEqual(sorted(degrees), letters_of([fact, saying, *facts]))
        self.assertTrue(all(is_degree(worth) and worth[1] < 10**4000 for worth in degrees.values()))
        pieces = pieces_of(joining)
        power = 1
        for _ in range(count - 1):
            power = told_both(pieces, power, told_worth(pieces, fact, degrees))
        self.assertNotEqual(told_then(pieces, power, told_worth(pieces, saying, degrees)), 1)
        for other in facts:
            self.assertEqual(told_worth(pieces, other, degrees), 1)
        if count == 1:
            self.assertIs(told_is_break(pieces, saying, facts, degrees), True)

    def use(self, fact, text, facts=()):
        fact, saying, facts = parsed(fact), parsed(text), read(facts)
        told = uses(fact, saying, facts)
        if told is None:
            self.assertIs(follows(saying, [fact, *facts]), False)
            return None
        self.check(fact, saying, facts, told)
        return told[0]

    def test_known_numbers(self):
        for fact, text, facts, wanted in (
            ("a", "a", [], 1),
            ("a", "(a & a)", [], 2),
            ("a", "(a & (a & a))", [], 3),
            ("a", "((a & a) & (a & a))", [], 4),
            ("a", "(a min a)", [], 1),
            ("a", "1", [], 0),
            ("a", "(b -> b)", [], 0),
            ("a", "b", [], None),
            ("a", "b", ["(a -> b)"], 1),
            ("a", "b", ["(a -> (a -> b))"], 2),
            ("a", "b", ["(a -> (a -> (a -> b)))"], 3),
            ("a", "b", ["((a & a) -> b)", "a"], 0),
            ("a", "b", ["b"], 0),
            ("a", "b", ["c"], None),
            ("0", "b", [], 1),
            ("(a & not a)", "b", [], 1),
            ("(a min not a)", "b", [], 2),
            ("1", "1", [], 0),
            ("1", "a", [], None),
            ("1", "a", ["a"], 0),
            ("(a -> b)", "((a & a) -> (b & b))", [], 2),
            ("(a max b)", "((a & a) max (b & b))", [], 2),
            ("(a max b)", "((a & (a & a)) max (b & (b & b)))", [], 3),
        ):
            with self.subTest((fact, text, facts)):
                self.assertEqual(self.use(fact, text, facts), wanted)

    def test_up_to_twelve(self):
        text = "a"
        for count in range(1, 11):
            self.assertEqual(self.use("a", text), count)
            text = f"(a & {text})"
        # Both of both, and so on: with fewer nodes, it takes more.
        self.assertEqual(self.use("a", "(b & (b & b))", ["((a & (a & (a & a))) -> b)"]), 12)
        self.assertEqual(self.use("a", "(b & b)", ["((a & a) same c)", "((c & (c & c)) -> b)"]), 12)
        self.assertEqual(self.use("(a & (a & a))", "a", []), 1)

    def test_the_fact_among_the_facts(self):
        self.assertEqual(self.use("a", "(a & a)", ["a"]), 0)
        self.assertEqual(self.use("a", "(a & b)", ["a"]), None)
        self.assertEqual(self.use("a", "(a & b)", ["b", "b"]), 1)
        self.assertEqual(self.use("a", "(a & b)", ["b", "a"]), 0)

    def test_degrees_for_all_names(self):
        told = uses(parsed("(z & a)"), named("a"), read(["(m -> m)"]))
        self.assertEqual((told[0], sorted(told[1][1])), (1, ["a", "m", "z"]))
        told = uses(never(), named("b"))
        self.assertEqual((told[0], sorted(told[1][1])), (1, ["b"]))
        told = uses(parsed("(0 min z)"), never())
        self.assertEqual((told[0], sorted(told[1][1])), (1, ["z"]))
        told = uses(parsed("(a & 0)"), parsed("(b & b)"), [named("c")])
        self.assertEqual((told[0], sorted(told[1][1])), (1, ["a", "b", "c"]))
        told = uses(never(), never())
        self.assertEqual((told[0], told[1][1]), (1, {}))

    def test_no_too_large(self):
        # Both of eleven times a fact of 19 nodes has more nodes than a saying may have.
        fact = named("a")
        for _ in range(18):
            fact = fact.denied()
        self.assertEqual(uses(fact, fact)[0], 1)
        fact = "(a min (a min (a min (a min (a min (a min (a min (a min a))))))))"
        told = self.use(fact, "(b & b)", ["((a & (a & (a & (a & (a & a))))) -> b)"])
        self.assertEqual(told, 12)
        told = self.use(f"(1 & ({fact} & 1))", "(b & b)", ["((a & (a & (a & (a & (a & (a & (a & a))))))) -> b)"])
        self.assertEqual(told, 16)

    def test_least_ones(self):
        rng = random.Random(160)
        seen = {}
        for _ in range(500):
            saying, facts = drawn(rng, 9)
            names = "".join(letters_of([saying, *facts])) or "a"
            fact = drawn_saying(rng, rng.randint(1, 4), names)
            if rng.random() < 0.4:
                saying = saying.both(fact).both(fact) if rng.random() < 0.5 else fact.both(saying.higher(fact))
            told = uses(fact, saying, facts)
            self.assertIs(told is None, not follows(saying, [fact, *facts]))
            if told is not None:
                self.check(fact, saying, facts, told)
                power = always()
                for count in range(told[0] + 1):
                    self.assertIs(follows(power.then(saying), facts), count == told[0])
                    power = fact if count == 0 else power.both(fact)
            key = told and told[0]
            seen[key] = seen.get(key, 0) + 1
        self.assertTrue(min(seen[None], seen[0], seen[1]) > 20 and seen[2] > 10 and seen[3] > 2, seen)

    def test_arguments(self):
        a, b = named("a"), named("b")
        self.assertEqual(uses(facts=(b,), saying=b, fact=a), (0, None))
        for thing in [*not_sayings(), sums(1), Saying]:
            for things in ((thing, a), (thing, thing, thing), (thing, None, None), (thing, a, [a])):
                self.assertIs(self.refused(errors.InvalidSaying, uses, *things).thing, thing)
            for things in ((a, thing), (a, thing, [thing]), (a, thing, None)):
                self.assertIs(self.refused(errors.InvalidSaying, uses, *things).thing, thing)
        self.check_facts_refused(uses, a, b)
        self.check_facts_refused(uses, a, always())

    def test_told_again_and_anew(self):
        fact, saying, facts = named("a"), parsed("(a & a)"), [parsed("(c -> b)")]
        first, second = uses(fact, saying, facts), uses(fact, saying, facts)
        self.assertEqual(first, second)
        first[1][1].clear()
        self.assertEqual(uses(fact, saying, facts), second)
        self.assertEqual([str(one) for one in facts], ["(c -> b)"])


class LeastFacts(Refusing):
    def test_known_sets(self):
        for text, facts, wanted in (
            ("b", ["a", "(a -> b)", "c"], ((0, 1),)),
            ("b", ["a", "(a -> b)", "a", "b", "0"], ((0, 1), (1, 2), (3,), (4,))),
            ("b", ["a", "c"], ()),
            ("b", [], ()),
            ("1", [], ((),)),
            ("1", ["a", "b"], ((),)),
            ("(a -> a)", ["0"], ((),)),
            ("0", ["a", "not a", "(a same b)", "not b"], ((0, 1), (0, 2, 3))),
            ("0", ["0", "0"], ((0,), (1,))),
            ("a", ["a"] * 6, ((0,), (1,), (2,), (3,), (4,), (5,))),
            ("((a & b) & c)", ["a", "b", "c"], ((0, 1, 2),)),
            ("(a -> c)", ["(b -> c)", "(a -> b)", "c", "not a"], ((0, 1), (2,), (3,))),
            ("(a & a)", ["1", "a", "(a & a)"], ((1,), (2,))),
        ):
            with self.subTest((text, facts)):
                told = least_facts(parsed(text), read(facts))
                self.assertEqual(told, wanted)
                self.assertIs(type(told), tuple)
                for one in told:
                    self.assertIs(type(one), tuple)

    def test_many_least_sets(self):
        # Of six facts any three are enough.
        facts = read(["a", "a", "b", "b", "c", "c"])
        told = least_facts(parsed("((a & b) & c)"), facts)
        self.assertEqual(told, tuple(itertools.product((0, 1), (2, 3), (4, 5))))
        # In the order of tuples, not of their lengths.
        facts = read(["a", "b", "(a & b)", "(a -> b)"])
        self.assertEqual(least_facts(parsed("(a & b)"), facts), ((0, 1), (0, 3), (2,)))

    def test_drawn_ones(self):
        rng = random.Random(170)
        seen = {}
        for _ in range(250):
            names = "abc"[: rng.choice((1, 2, 2, 3))]
            facts = [drawn_saying(rng, rng.randint(1, 4), names) for _ in range(rng.randint(0, 6))]
            saying = drawn_saying(rng, rng.randint(1, 6), names)
            enough = []
            for size in range(len(facts) + 1):
                for places in itertools.combinations(range(len(facts)), size):
                    if not any(set(part) <= set(places) for part in enough):
                        if follows(saying, [facts[place] for place in places]):
                            enough.append(places)
            told = least_facts(saying, facts)
            self.assertEqual(told, tuple(sorted(enough)))
            seen[len(told)] = seen.get(len(told), 0) + 1
        self.assertTrue(seen[0] > 20 and seen[1] > 20 and seen[2] > 10 and seen[3] > 2, seen)

    def test_arguments(self):
        a = named("a")
        self.assertEqual(least_facts(facts=(a, a), saying=a), ((0,), (1,)))
        for thing in [*not_sayings(), sums(1), Saying]:
            for facts in ([], None, [thing]):
                self.assertIs(self.refused(errors.InvalidSaying, least_facts, thing, facts).thing, thing)
        self.check_facts_refused(least_facts, a)
        self.assertRaises(TypeError, least_facts, a)

    def test_they_are_defined_in_their_module(self):
        for call in (grade, fewest, uses, least_facts):
            self.assertEqual(call.__module__, grades.__name__)


if __name__ == "__main__":
    unittest.main()
