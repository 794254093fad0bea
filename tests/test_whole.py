"""The whole program, points 1 to 18: its functions agree with one another."""

import random
import unittest

from gradetalk.books import Book
from gradetalk.carrying import carried
from gradetalk.deciding import break_in, break_of, follows, follows_in
from gradetalk.errors import Clash
from gradetalk.grades import fewest, grade, least_facts, uses
from gradetalk.joinings import Joining, sums
from gradetalk.judging import is_paper
from gradetalk.papers import paper, paper_in
from gradetalk.sayings import always, named, never
from gradetalk.texts import parsed
from tests.draws import drawn_degrees, drawn_saying, drawn_shape, joining_of
from tests.oracle import letters_of
from tests.things import BINARY

# Kinds that make breaks and proofs of many sorts.
KINDS = (BINARY, BINARY, ("both", "then"), ("same", "both"), ("lower", "higher", "then"))


def put(saying, others):
    """The saying with other sayings in the place of its names."""
    if saying.kind == "name":
        return others.get(saying.letter, saying)
    pieces = [put(piece, others) for piece in saying.pieces]
    if saying.kind in ("never", "always"):
        return saying
    return getattr(pieces[0], saying.kind)(*pieces[1:])


class Drawn(unittest.TestCase):
    def draws(self, seed, count, most=10):
        rng = random.Random(seed)
        for _ in range(count):
            names = "abc"[: rng.choice((1, 2, 2, 3))]
            kinds = rng.choice(KINDS)
            facts = [drawn_saying(rng, rng.randint(1, 4), names, kinds) for _ in range(rng.choice((0, 1, 1, 2, 3)))]
            saying = drawn_saying(rng, rng.randint(1, most), names, kinds)
            if rng.random() < 0.25 and facts:
                saying = rng.choice(facts).both(rng.choice(facts)).higher(saying)
            yield rng, saying, facts


class Following(Drawn):
    def test_under_all_joinings_and_in_each_shape(self):
        following = 0
        for rng, saying, facts in self.draws(200, 250):
            if follows(saying, facts):
                following += 1
                shape = drawn_shape(rng, 4)
                self.assertIs(follows_in(shape, saying, facts), True)
                self.assertIsNotNone(paper_in(shape, saying, facts))
                self.assertIsNotNone(paper(saying, facts))
                names = letters_of([saying, *facts])
                for _ in range(10):
                    joining, degrees = joining_of(shape, rng), drawn_degrees(rng, names, rng.choice((1, 2, 4, 12)))
                    self.assertIs(joining.is_break(saying, facts, degrees), False)
                    if all(joining.worth(fact, degrees) == (1, 1) for fact in facts):
                        self.assertEqual(joining.worth(saying, degrees), (1, 1))
            else:
                joining, degrees = break_of(saying, facts)
                self.assertIsNotNone(break_in(joining.shape, saying, facts))
                self.assertNotEqual(joining.worth(saying, degrees), (1, 1))
                for fact in facts:
                    self.assertEqual(joining.worth(fact, degrees), (1, 1))
        self.assertTrue(50 < following < 200, following)

    def test_what_follows_from_what_follows(self):
        found = 0
        for rng, saying, facts in self.draws(201, 300, 5):
            between = drawn_saying(rng, rng.randint(1, 5), "ab")
            if facts and follows(between, facts) and follows(saying, [between]):
                found += 1
                self.assertIs(follows(saying, facts), True)
            if follows(saying, [between, *facts]) and follows(between, facts):
                self.assertIs(follows(saying, facts), True)
                self.assertIs(Book([]).holds(saying), follows(saying))
        self.assertGreater(found, 15)

    def test_order_and_doubles_of_facts(self):
        for rng, saying, facts in self.draws(202, 120):
            more = facts + [rng.choice(facts) for _ in range(2) if facts]
            rng.shuffle(more)
            shape = drawn_shape(rng, 3)
            self.assertIs(follows(saying, more), follows(saying, facts))
            self.assertIs(follows_in(shape, saying, more), follows_in(shape, saying, facts))
            self.assertEqual(grade(saying, more), grade(saying, facts))
            self.assertEqual(fewest(saying, more), fewest(saying, facts))
            one, other = uses(named("a"), saying, more), uses(named("a"), saying, facts)
            self.assertEqual(one and one[0], other and other[0])
            self.assertIs(paper_in(shape, saying, more) is None, paper_in(shape, saying, facts) is None)

    def test_sayings_in_the_place_of_names(self):
        broken = 0
        for rng, saying, facts in self.draws(203, 250, 6):
            others = {name: drawn_saying(rng, rng.randint(1, 3), "ab") for name in letters_of([saying, *facts])}
            placed, given = put(saying, others), [put(fact, others) for fact in facts]
            told = break_of(placed, given)
            if told is None:
                continue
            broken += 1
            joining, degrees = told
            for letter in "ab":
                degrees.setdefault(letter, (1, 2))
            worths = {name: joining.worth(other, degrees) for name, other in others.items()}
            self.assertIs(joining.is_break(saying, facts, worths), True)
            self.assertIs(follows(saying, facts), False)
        self.assertGreater(broken, 100)

    def test_texts_read_back(self):
        for rng, saying, facts in self.draws(204, 80):
            again, given = parsed(str(saying)), [parsed(str(fact)) for fact in facts]
            shape = drawn_shape(rng, 3)
            for call in (break_of, grade, fewest, paper, least_facts):
                self.assertEqual(call(again, given), call(saying, facts))
            for call in (break_in, paper_in, follows_in):
                self.assertEqual(call(shape, again, given), call(shape, saying, facts))
            self.assertEqual(uses(named("b"), again, given), uses(named("b"), saying, facts))
            told = paper_in(shape, saying, facts)
            self.assertIs(is_paper(shape, again, given, told), told is not None)


class Counting(Drawn):
    def test_grade_and_fewest(self):
        for _, saying, facts in self.draws(210, 200):
            self.assertIs(grade(saying, facts) is None, follows(saying, facts))
            self.assertIs(fewest(saying, facts) is None, follows(saying, facts))
            if not follows(saying, facts):
                count = grade(saying, facts)
                self.assertIsNone(paper_in(("sum",) * count, saying, facts))
                self.assertLessEqual(fewest(saying, facts), count)
                for fewer in range(1, count):
                    self.assertIsNotNone(paper_in(("sum",) * fewer, saying, facts))

    def test_uses(self):
        for rng, saying, facts in self.draws(211, 200, 6):
            fact = drawn_saying(rng, rng.randint(1, 4), "abc")
            told = uses(fact, saying, facts)
            self.assertIs(told is not None, follows(saying, [fact, *facts]))
            self.assertIs(told is not None and told[0] == 0, follows(saying, facts))
            if told is not None and told[0] > 0:
                # Carried over to sums, the break stays one.
                joining, degrees = told[1]
                power = always()
                for _ in range(told[0] - 1):
                    power = power.both(fact)
                self.assertIs(joining.is_break(power.then(saying), facts, degrees), True)
                moved = carried(joining, degrees, [power.then(saying), *facts, fact])
                self.assertIs(sums(len(moved) + 1).is_break(power.then(saying), facts, moved), True)

    def test_least_facts(self):
        found = 0
        for _, saying, facts in self.draws(212, 200, 6):
            told = least_facts(saying, facts)
            self.assertIs(told != (), follows(saying, facts))
            self.assertIs(told == ((),), follows(saying))
            self.assertEqual(list(told), sorted(set(told)))
            for places in told:
                found += len(places)
                self.assertIs(follows(saying, [facts[place] for place in places]), True)
                self.assertEqual(list(places), sorted(set(places)))
                for left_out in places:
                    rest = [facts[place] for place in places if place != left_out]
                    self.assertIs(follows(saying, rest), False)
                    self.assertGreater(uses(facts[left_out], saying, rest)[0], 0)
        self.assertGreater(found, 50)

    def test_breaks_carried_over(self):
        for rng, saying, facts in self.draws(213, 200):
            told = break_in(drawn_shape(rng, 4), saying, facts)
            if told is not None:
                degrees = carried(*told, [saying, *facts])
                self.assertIs(sums(len(degrees) + 1).is_break(saying, facts, degrees), True)


class Books(Drawn):
    def test_books_and_following(self):
        clashes = 0
        for _, saying, facts in self.draws(220, 150):
            if follows(never(), facts):
                clashes += 1
                self.assertRaises(Clash, Book, facts)
                self.assertIsNotNone(paper(never(), facts))
                continue
            book = Book(facts)
            self.assertIs(book.holds(saying), follows(saying, facts))
            if follows(never(), [*facts, saying]):
                self.assertRaises(Clash, book.tell, saying)
            else:
                same = Book(facts)
                self.assertIs(book.tell(saying), follows(saying, facts))
                self.assertIs(book.agrees(same), follows(saying, facts))
                self.assertIs(same.agrees(book), follows(saying, facts))
                self.assertIs(book.back(), True)
            self.assertEqual(book.facts, tuple(facts))
            self.assertIs(book.back(), False)
        self.assertGreater(clashes, 10)


class Answers(unittest.TestCase):
    def test_made_again_after_other_calls(self):
        saying, facts = parsed("((a & b) -> c)"), [parsed("(a -> c)"), parsed("(c same c)")]
        joining = Joining([((0, 1), (1, 2), "product"), ((1, 2), (1, 1), "sum")])
        degrees = {"a": (1, 3), "b": (2, 3), "c": (1, 4)}

        def all_answers():
            return [
                follows(saying, facts), break_of(saying.denied(), facts), paper(saying, facts), grade(saying.denied(), facts),
                fewest(saying.denied(), facts), uses(facts[0], saying, facts[1:]), least_facts(saying, facts),
                carried(joining, degrees, [saying, *facts]), Book(facts).holds(saying), joining.worth(saying, degrees),
            ]

        first = all_answers()
        for _ in range(2):
            self.assertEqual(all_answers(), first)
        self.assertEqual([str(fact) for fact in facts], ["(a -> c)", "(c same c)"])
        self.assertEqual(degrees, {"a": (1, 3), "b": (2, 3), "c": (1, 4)})


if __name__ == "__main__":
    unittest.main()
