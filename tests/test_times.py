"""Point 3: each call within the limits returns within a few seconds."""

import random
import time
import unittest

from gradetalk.books import Book
from gradetalk.carrying import carried
from gradetalk.deciding import break_in, break_of, follows, follows_in
from gradetalk.degrees import degree
from gradetalk.grades import fewest, grade, least_facts, uses
from gradetalk.joinings import Joining
from gradetalk.judging import is_paper
from gradetalk.papers import paper, paper_in
from gradetalk.sayings import named
from gradetalk.texts import parsed
from tests.draws import drawn_saying, drawn_shape, joining_of
from tests.oracle import built_paper
from tests.things import BINARY, LETTERS, balanced, deep, leaning

SECONDS = 4
HUGE = 10**60 - 1

# Of 21 nodes with three names, 8 of the nodes same; each follows, so that every place must be looked at.
HARD = (
    "((((a same b) same (b same c)) same ((c same a) same (a same (b same c)))) -> (a max 1))",
    "(((((a same b) same c) same ((a same c) same b)) same ((b same c) same a)) -> (1 max 0))",
    "(((b same ((b same not b) same a)) same ((not a same a) same (c same (b same c)))) -> 1)",
    "(((((b same c) & a) same ((a & c) same b)) same (c same (a same b))) -> (0 same 0))",
)
SHAPES = (
    ("sum", "sum", "sum", "sum"),
    ("sum", "product", "sum", "product"),
    ("product", "product", "product", "product"),
    ("minimum", "product", "sum", "minimum"),
    ("minimum", "product", "minimum", "product"),
    ("minimum", "product", "product", "minimum"),
    ("product", "sum", "minimum", "sum"),
)

# Found by looking for what takes longest, or for the longest papers.
LONG = (
    ("((not 1 same ((not a same a) same ((not c same c) same (c same (not b same b))))) max 1)", (),
     ("sum", "minimum", "sum", "minimum")),
    ("((not (((b same a) same (b same not a)) same ((not c same c) same not b)) same 0) -> 1)", (), ("sum", "minimum", "product")),
    ("((a & (c same ((c same (c & (not (b & b) max (c & c)))) same c))) -> a)", ("b",), ("minimum", "sum", "sum", "minimum")),
    ("((c & (c & ((b -> (b & b)) -> (((a & a) -> c) & (c & c))))) -> c)", (), ("product", "sum", "sum", "sum")),
    ("(((a & a) & a) -> (((c & (c & ((c & c) & (b -> c)))) & c) -> c))", (), ("product", "sum", "sum", "product")),
    ("(((((a same c) same c) same ((b same (a same b)) same b)) same b) -> 1)", ("b", "b", "not c"),
     ("product", "sum", "sum", "product")),
)


def many_same(saying):
    return (saying.kind == "same") + sum(many_same(piece) for piece in saying.pieces)


class Times(unittest.TestCase):
    def timed(self, call, *things):
        start = time.monotonic()
        told = call(*things)
        self.assertLess(time.monotonic() - start, SECONDS, [str(thing) for thing in things])
        return told

    def test_21_nodes_with_three_names(self):
        for text in HARD:
            saying = parsed(text)
            self.assertEqual(saying.size, 21)
            self.assertEqual(saying.names, ("a", "b", "c"))
            self.assertLessEqual(many_same(saying), 8)
            self.assertIs(self.timed(follows, saying), True)
            for shape in SHAPES:
                self.assertIs(self.timed(follows_in, shape, saying), True)

    def test_drawn_ones(self):
        rng = random.Random(300)
        for names, most in (("abc", 4), ("ab", 5)):
            for _ in range(60):
                kinds = rng.choice((("same",), ("same", "same", "both"), ("both", "then"), BINARY))
                saying = drawn_saying(rng, 19, names, kinds)
                if names == "abc" and many_same(saying) > 8:
                    continue
                # What follows for sure takes longest, as nothing may be left out.
                saying = saying.then(parsed("1"))
                self.assertIs(self.timed(follows, saying), True)
                self.assertIs(self.timed(follows_in, drawn_shape(rng, most), saying), True)
                self.timed(break_of, saying.pieces[0], [])
                self.timed(break_in, drawn_shape(rng, most), saying.pieces[0], [])

    def test_six_facts(self):
        for saying, facts in (
            ("(c -> a)", ("(a -> b)", "(b -> c)", "(b -> a)", "(c -> b)", "a", "1")),
            ("0", ("(a same b)", "(b same c)", "(c same a)", "a", "b", "c")),
            ("((a & b) & c)", ("(a max b)", "(b max c)", "(c max a)", "a", "b", "a")),
            ("(a max b)", ("(a same c)", "not not b", "not not a", "(c max b)", "a", "b")),
        ):
            saying, facts = parsed(saying), [parsed(fact) for fact in facts]
            self.assertLessEqual(saying.size + sum(fact.size for fact in facts), 21)
            self.timed(break_of, saying, facts)
            for shape in SHAPES:
                self.timed(break_in, shape, saying, facts)

    def test_five_stretches_with_two_names(self):
        texts = (
            "(((((a same b) same a) same (b same not a)) same ((a same b) same (b same a))) -> 1)",
            "((((a same (a same b)) same (b same (b same a))) same ((a & b) same (a -> b))) max 1)",
        )
        for text in texts:
            saying = parsed(text)
            self.assertLessEqual(saying.size, 21)
            for shape in (("sum",) * 5, ("product",) * 5, ("minimum", "product", "minimum", "product", "minimum"),
                          ("sum", "product", "minimum", "sum", "product")):
                self.assertIs(self.timed(follows_in, shape, saying), True)

    def test_large_papers(self):
        for text, shape in ((HARD[2], SHAPES[0]), (HARD[2], SHAPES[4]), (HARD[0], SHAPES[5])):
            saying = parsed(text)
            paper = built_paper(shape, saying, [])
            self.assertIs(self.timed(is_paper, shape, saying, [], paper), True)
            self.assertIs(self.timed(is_paper, shape, saying, [named("a")], paper), True)
            self.assertIs(self.timed(is_paper, shape, named("a"), [saying], paper), False)

    def test_papers(self):
        for text, facts, shape in (*LONG, *((text, (), shape) for text in HARD for shape in SHAPES)):
            saying, facts = parsed(text), [parsed(fact) for fact in facts]
            told = self.timed(paper_in, shape, saying, facts)
            self.assertIs(self.timed(is_paper, shape, saying, facts, told), True)
        for text, facts, _ in (*LONG, *((text, (), None) for text in HARD)):
            saying, facts = parsed(text), [parsed(fact) for fact in facts]
            told = self.timed(paper, saying, facts)
            self.assertIs(self.timed(is_paper, ("sum",) * 4, saying, facts, told), True)

    def test_papers_in_five_stretches(self):
        text = "((((a same (a same b)) same (b same (b same a))) same ((a & b) same (a -> b))) max 1)"
        for shape in (("sum",) * 5, ("product",) * 5, ("minimum", "product", "minimum", "product", "minimum"),
                      ("sum", "product", "minimum", "sum", "product")):
            told = self.timed(paper_in, shape, parsed(text))
            self.assertIs(self.timed(is_paper, shape, parsed(text), [], told), True)

    def test_drawn_papers(self):
        rng = random.Random(310)
        for _ in range(60):
            kinds = rng.choice((("same",), ("same", "same", "both"), ("both", "then"), BINARY))
            facts = [drawn_saying(rng, 3, "abc", kinds) for _ in range(rng.randint(0, 2))]
            saying = drawn_saying(rng, 19 - 3 * len(facts), "abc", kinds)
            if many_same(saying) + sum(many_same(fact) for fact in facts) <= 8:
                shape, saying = drawn_shape(rng, 4), saying.then(parsed("1"))
                told = self.timed(paper_in, shape, saying, facts)
                self.assertIs(self.timed(is_paper, shape, saying, facts, told), True)

    def test_grades(self):
        for text, facts, _ in (*LONG, *((text, (), None) for text in HARD)):
            saying, facts = parsed(text), [parsed(fact) for fact in facts]
            self.assertIsNone(self.timed(grade, saying, facts))
            self.assertIsNone(self.timed(fewest, saying, facts))
            self.timed(grade, saying.pieces[0], facts)
            self.timed(fewest, saying.pieces[0], facts)
            self.assertEqual(self.timed(uses, named("a"), saying, facts), (0, None))
            self.timed(least_facts, saying.pieces[0], facts)

    def test_uses_up_to_twelve(self):
        for fact, text, facts in (
            ("a", "(b & (b & b))", ("((a & (a & (a & a))) -> b)",)),
            ("(a & b)", "(c & (c & c))", ("((a & (a & (a & a))) -> c)", "b")),
            ("(b & c)", "((not a -> b) & (((b & b) & (b & (b & (b & b)))) & b))", ()),
            ("not a", "((c & (c & (c & c))) & (c & c))", ("(not a -> ((a -> b) -> c))",)),
            ("(a same b)", "(c & (c & c))", ("((a same b) -> ((a same b) -> ((b same a) -> ((b same a) -> c))))",)),
        ):
            told = self.timed(uses, parsed(fact), parsed(text), [parsed(other) for other in facts])
            self.assertIsNotNone(told)

    def test_least_sets_of_six_facts(self):
        for text, facts in (
            ("((a & b) & c)", ("a", "a", "b", "b", "c", "c")),
            ("(((a same b) & (b same c)) & c)", ("(a same b)", "(b same c)", "(a same c)", "a", "b", "c")),
            ("(((b same a) same (c same b)) same b)", ("not not a", "a", "not b", "(a same b)", "not not c")),
            ("((((c same b) same a) same b) same a)", ("a", "b", "c", "not a", "not b", "not c")),
        ):
            self.timed(least_facts, parsed(text), [parsed(fact) for fact in facts])

    def test_books_of_six_facts(self):
        facts = [parsed(text) for text in ("(a same b)", "(b same c)", "(c max a)", "(a -> c)", "b", "not not c")]
        book = self.timed(Book, facts[:5])
        self.assertIs(self.timed(book.tell, facts[5]), True)
        self.assertIs(self.timed(book.holds, parsed("(((a same b) same c) & a)")), True)
        self.assertIs(self.timed(book.agrees, Book(facts[::-1])), True)
        self.timed(book.untell, 3)

    def test_carrying_over(self):
        texts = ("((a & (b & (a & b))) same (b & (b & (c & (c & (c & c))))))", *HARD)
        worths = [(HUGE - 4, HUGE), (HUGE // 2 - 1, HUGE), (HUGE // 3, HUGE - 1)]
        degrees = {name: degree(*worth) for name, worth in zip("abc", worths)}
        for kind in ("sum", "product"):
            within = Joining([(degree(HUGE // 3 - 7, HUGE - 1), (1, 1), kind)])
            for joining in (Joining([((0, 1), (1, 1), kind)]), within, joining_of((kind,) * 12)):
                for text in texts:
                    self.timed(carried, joining, degrees, [parsed(text)])

    def test_worths_of_large_sayings(self):
        degrees = {name: (HUGE - at - 2, HUGE - at - 1) for at, name in enumerate(LETTERS)}
        rng = random.Random(301)
        pieces = [((at, 13), (at + 1, 13), rng.choice(("sum", "product"))) for at in range(1, 13)]
        pieces[-1] = ((12, 13), (1, 1), "product")
        big = [deep(200), balanced(200), *(leaning(199, kind, left) for kind in BINARY for left in (True, False))]
        for joining in (Joining(pieces), Joining([((0, 1), (1, 1), "product")]), joining_of(("sum", "product") * 6)):
            for saying in big:
                self.timed(joining.worth, saying, degrees)
            self.timed(joining.is_break, big[0], big[1:7], degrees)

    def test_texts(self):
        for text in ("not " * 99 + "a", "(" * 60 + "a" + "&b)" * 60, "(" * 400, "not(" * 100):
            start = time.monotonic()
            try:
                parsed(text)
            except ValueError:
                pass
            self.assertLess(time.monotonic() - start, SECONDS)


if __name__ == "__main__":
    unittest.main()
