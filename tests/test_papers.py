"""Points 13 and 14 and the section "gradetalk/papers.py" of the interface."""

import random
import unittest

from gradetalk import errors, papers
from gradetalk.deciding import break_in, break_of, follows, follows_in
from gradetalk.joinings import sums
from gradetalk.judging import is_paper
from gradetalk.papers import paper, paper_in
from gradetalk.sayings import Saying, always, named, never
from gradetalk.texts import parsed
from tests.draws import drawn_saying, drawn_shape
from tests.oracle import letters_of, told_is_paper, told_places
from tests.test_deciding import KNOWN, SPECIAL, STEPS, shapes_up_to
from tests.things import BINARY, anything, not_lists, not_sayings, not_shapes

SUM, PRODUCT, MINIMUM = ("sum",), ("product",), ("minimum",)


def nodes_of(node):
    """All nodes of a paper."""
    found = [node]
    for one in found:
        if one[0] == "place":
            found.extend(one[2])
        if one[0] == "split":
            found.extend(one[2:])
    return found


class Written(unittest.TestCase):
    def check(self, shape, saying, facts, told):
        self.assertIs(is_paper(shape, saying, facts, told), True, (shape, str(saying)))
        self.assertIs(told_is_paper(shape, saying, facts, told), True, (shape, str(saying)))

    def write(self, shape, text, facts=()):
        saying, facts = parsed(text), [parsed(fact) for fact in facts]
        told = paper_in(shape, saying, facts)
        self.assertIs(told is None, break_in(shape, saying, facts) is not None, (shape, text))
        if told is not None:
            self.check(shape, saying, facts, told)
        return told

    def write_all(self, text, facts=()):
        saying, facts = parsed(text), [parsed(fact) for fact in facts]
        told = paper(saying, facts)
        self.assertIs(told is None, break_of(saying, facts) is not None, text)
        if told is not None:
            self.check(("sum",) * (len(letters_of([saying, *facts])) + 1), saying, facts, told)
        return told


class Known(Written):
    def test_under_all_joinings(self):
        for text in KNOWN:
            with self.subTest(text):
                self.assertIsNotNone(self.write_all(text))

    def test_in_every_shape(self):
        for text in KNOWN:
            for shape in shapes_up_to(2):
                self.assertIsNotNone(self.write(shape, text), (shape, text))

    def test_in_shapes_of_five(self):
        for text in KNOWN:
            if len(parsed(text).names) < 3:
                for shape in (("sum",) * 5, ("product",) * 5, ("minimum", "product", "minimum", "sum", "minimum")):
                    self.assertIsNotNone(self.write(shape, text), (shape, text))

    def test_in_some_shapes_alone(self):
        for text, wanted in SPECIAL:
            self.assertIsNone(self.write_all(text))
            for shape in shapes_up_to(2):
                self.assertIs(self.write(shape, text) is not None, wanted(shape), (shape, text))

    def test_what_needs_several_sums(self):
        for count in range(1, 4):
            facts, text = [fact for fact, _ in STEPS[:count]], STEPS[count - 1][1]
            self.assertIsNone(self.write_all(text, facts))
            for many in range(1, 5):
                self.assertIs(self.write(("sum",) * many, text, facts) is not None, many <= count)


class Edges(Written):
    def test_no_names(self):
        for text in ("1", "not 0", "(0 -> 0)", "(0 same 0)", "((0 & 0) same 0)", "((0 & 0) -> (0 & (0 & 0)))", "(0 max 1)"):
            self.assertIsNotNone(self.write_all(text))
            for shape in shapes_up_to(3):
                self.assertIsNotNone(self.write(shape, text), (shape, text))
        self.assertEqual(paper(always()), ("one",))
        for text in ("0", "not 1", "(0 & 0)", "(1 -> 0)", "(0 min 1)"):
            self.assertIsNone(self.write_all(text))
            for shape in shapes_up_to(3):
                self.assertIsNone(self.write(shape, text), (shape, text))

    def test_rows_without_unknowns(self):
        # At the lowest sum both of never and never must be split, though it is plain what it comes to.
        told = self.write(SUM, "not (0 & 0)")
        self.assertEqual([node for node in nodes_of(told) if node[0] == "split"][0][1], "(0 & 0)")
        self.assertEqual([node for node in nodes_of(told) if node[0] == "cannot"][0], ("cannot", (1,)))

    def test_no_facts(self):
        for facts in ((), []):
            self.assertIsNone(paper(named("a"), facts))
            self.assertEqual(paper(always(), facts), paper(always()))
            self.assertEqual(paper_in(SUM, always(), facts), paper_in(SUM, always()))

    def test_never(self):
        for facts in (["a", "not a"], ["(a & not a)"], ["0"], ["b", "0", "a"], ["not a", "not not a"]):
            for text in ("0", "a", "c", "(b & a)"):
                self.assertIsNotNone(self.write_all(text, facts))
                for shape in shapes_up_to(2):
                    self.assertIsNotNone(self.write(shape, text, facts))
        self.assertIsNone(self.write_all("0", ["a"]))
        self.assertEqual(paper(named("a"), [always(), never()]), ("below", 1))

    def test_facts_told_twice(self):
        for facts in (["a", "a", "(a -> b)", "(a -> b)"], ["(a -> b)", "a"] * 3):
            self.assertIsNotNone(self.write_all("b", facts))
            for shape in shapes_up_to(2):
                self.assertIsNotNone(self.write(shape, "b", facts))

    def test_names_of_the_facts_alone(self):
        # The places are those for all names, also where facts are not needed.
        for facts in (["c"], ["c", "d"], ["(c -> d)", "z"]):
            for shape in shapes_up_to(2):
                told = self.write(shape, "(a -> a)", facts)
                places = told_places(shape, len(letters_of([parsed(fact) for fact in facts])) + 1)
                for node in nodes_of(told):
                    if node[0] == "place":
                        self.assertEqual(len(node[2]), len(places))
            self.assertIsNotNone(self.write_all("(a -> a)", facts))
            self.assertIsNotNone(self.write_all("(a -> b)", [*facts, "b"]))
        self.assertIsNotNone(self.write_all("1", ["a", "b"]))

    def test_what_is_not_needed_is_left_out(self):
        # No promise, but papers would grow long otherwise.
        for facts, text, names in (
            (["a", "(b same c)", "(c max (b & a))"], "a", {"a"}),
            (["(b same c)", "(c -> c)", "a"], "(a & a)", {"a"}),
            (["b", "(b same c)"], "(a -> a)", {"a"}),
            (["(b -> c)", "a", "c", "not a"], "(b same c)", {"a"}),
            (["(b -> c)", "a", "(a -> b)", "c"], "(a -> b)", {"a", "b"}),
            (["(b -> c)", "(a -> b)", "(b -> b)", "b"], "(a -> c)", {"a", "b", "c"}),
        ):
            for shape in (SUM, ("sum", "product"), ("minimum", "sum", "minimum")):
                told = self.write(shape, text, facts)
                self.assertEqual({node[1] for node in nodes_of(told) if node[0] == "place"}, names)

    def test_a_part_and_its_like(self):
        # not a and a -> 0 are two parts, each of which is split; the second split cannot go another way.
        for text in ("(not a same (a -> 0))", "((a -> 0) -> not a)", "(not not a same ((a -> 0) -> 0))"):
            for shape in shapes_up_to(2):
                self.assertIsNotNone(self.write(shape, text))

    def test_what_follows_from_facts(self):
        for facts, text in (
            (["a", "(a -> b)"], "b"),
            (["(a same b)", "(b same c)"], "(a same c)"),
            (["(a -> b)", "(b -> c)", "(c -> a)"], "(a same c)"),
            (["(a max b)", "(a -> c)", "(b -> c)"], "c"),
            (["(a -> (a & a))", "(b -> (b & b))"], "((a min b) same (a & b))"),
            (["a", "b", "c", "(a -> (b -> not c))"], "0"),
        ):
            self.assertIsNotNone(self.write_all(text, facts))
            for shape in shapes_up_to(2):
                self.assertIsNotNone(self.write(shape, text, facts))

    def test_more_names_than_the_limits(self):
        self.assertIsNotNone(self.write(("product",), "(a -> d)", ["(a -> b)", "(b -> c)", "(c -> d)"]))
        self.assertIsNotNone(self.write_all("((a & (b & (c & d))) -> d)"))

    def test_deep_sayings(self):
        # Far larger than the limits; one split stands behind another.
        a = named("a")
        saying = a
        for _ in range(40):
            saying = a.both(saying)
        saying = saying.then(a)
        for shape in (SUM, PRODUCT, ("sum", "sum")):
            self.assertIs(is_paper(shape, saying, [], paper_in(shape, saying)), True)


class Arguments(Written):
    def test_by_name(self):
        a = named("a")
        self.assertEqual(paper_in(facts=(a,), saying=a, shape=SUM), paper_in(SUM, a, [a]))
        self.assertEqual(paper(facts=(a,), saying=a), paper(a, [a]))
        self.assertIsNotNone(paper(a, [a]))

    def test_paper_is_the_one_in_sums(self):
        rng = random.Random(131)
        for _ in range(60):
            saying = drawn_saying(rng, rng.randint(1, 8), "ab")
            facts = [drawn_saying(rng, rng.randint(1, 5), "abc"[: rng.randint(1, 3)]) for _ in range(rng.randint(0, 2))]
            shape = ("sum",) * (len(letters_of([saying, *facts])) + 1)
            self.assertEqual(paper(saying, facts), paper_in(shape, saying, facts))

    def test_told_again(self):
        saying, facts = parsed("((a & b) -> c)"), [parsed("(a -> (b -> c))")]
        first, second = paper(saying, facts), paper(saying, tuple(facts))
        self.assertIsNotNone(first)
        self.assertEqual(first, second)
        facts.append(named("b"))
        self.assertEqual(paper(saying, facts[:1]), first)
        self.assertEqual(str(saying), "((a & b) -> c)")

    def test_wrong_arguments(self):
        a = named("a")
        for thing in not_shapes():
            for things in ((thing, a, []), (thing, None, None), (thing, thing, thing), (thing, a)):
                self.assertIs(self.refused(errors.InvalidShape, paper_in, *things).thing, thing)
        for thing in [*not_sayings(), sums(1), Saying]:
            for things in ((thing,), (thing, None), (thing, [thing])):
                self.assertIs(self.refused(errors.InvalidSaying, paper_in, SUM, *things).thing, thing)
                self.assertIs(self.refused(errors.InvalidSaying, paper, *things).thing, thing)
            for facts, place in (([thing], 0), ((a, thing), 1), ([a, a, thing, None], 2)):
                self.assertEqual(self.refused(errors.InvalidFacts, paper_in, SUM, always(), facts).place, place)
                self.assertEqual(self.refused(errors.InvalidFacts, paper, always(), facts).place, place)
        for thing in [*not_lists(), sums(1)]:
            self.assertIsNone(self.refused(errors.InvalidFacts, paper_in, SUM, a, thing).place)
            self.assertIsNone(self.refused(errors.InvalidFacts, paper, a, thing).place)
        for thing in anything():
            if thing not in ((), []):
                self.assertRaises(errors.InvalidShape, paper_in, thing, thing, thing)

    def refused(self, wanted, call, *things):
        with self.assertRaises(wanted) as caught:
            call(*things)
        return caught.exception

    def test_they_are_defined_in_their_module(self):
        for call in (paper, paper_in):
            self.assertEqual(call.__module__, papers.__name__)


class Drawn(Written):
    def draw(self, rng):
        names = "abc"[: rng.choice((1, 2, 2, 3))]
        kinds = rng.choice((BINARY, BINARY, ("both", "then"), ("same", "both"), ("lower", "higher", "then")))
        shape = drawn_shape(rng, 4 if len(names) == 3 else 5)
        facts = [drawn_saying(rng, rng.randint(1, 6), names, kinds) for _ in range(rng.choice((0, 0, 1, 2, 3)))]
        left = 19 - sum(fact.size for fact in facts)
        saying = drawn_saying(rng, rng.randint(1, min(left, 17)), names, kinds)
        if rng.random() < 0.3:
            # So that there are more papers, and long ones.
            saying = saying.then(always())
        return shape, saying, facts

    def test_papers_in_shapes(self):
        rng = random.Random(130)
        written = 0
        for _ in range(600):
            shape, saying, facts = self.draw(rng)
            told = paper_in(shape, saying, facts)
            self.assertIs(told is not None, follows_in(shape, saying, facts))
            if told is not None:
                written += 1
                self.check(shape, saying, facts, told)
            else:
                self.assertIsNotNone(break_in(shape, saying, facts))
        self.assertTrue(150 < written < 500, written)

    def test_papers_for_all_joinings(self):
        rng = random.Random(132)
        written = 0
        for _ in range(200):
            _, saying, facts = self.draw(rng)
            told = paper(saying, facts)
            self.assertIs(told is not None, follows(saying, facts))
            if told is not None:
                written += 1
                self.check(("sum",) * (len(letters_of([saying, *facts])) + 1), saying, facts, told)
        self.assertTrue(50 < written < 170, written)

    def test_a_paper_for_one_thing_is_none_for_another(self):
        rng = random.Random(133)
        told = paper_in(("sum", "product"), parsed("(a -> b)"), [parsed("(a -> c)"), parsed("(c -> b)")])
        for _ in range(100):
            saying, facts = drawn_saying(rng, 5, "abc"), [drawn_saying(rng, 3, "abc") for _ in range(2)]
            for thing in (told, ("one",), ("below", 1)):
                if is_paper(("sum", "product"), saying, facts, thing):
                    self.assertIs(follows_in(("sum", "product"), saying, facts), True)


if __name__ == "__main__":
    unittest.main()
