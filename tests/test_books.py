"""The section "gradetalk/books.py" of the interface, and points 11 and 12 for books."""

import random
import unittest

from gradetalk import books, errors
from gradetalk.books import Book
from gradetalk.deciding import follows
from gradetalk.joinings import sums
from gradetalk.sayings import always, named, never
from gradetalk.texts import parsed
from tests.draws import drawn_saying
from tests.things import anything, not_lists, not_sayings


def read(*texts):
    return [parsed(text) for text in texts]


def told(book):
    return [str(fact) for fact in book.facts]


class Facts(unittest.TestCase):
    def test_empty(self):
        for book in (Book(), Book([]), Book(()), Book(facts=[])):
            self.assertEqual(book.facts, ())
            self.assertIs(type(book.facts), tuple)
            self.assertEqual(len(book), 0)
            self.assertIs(book.holds(always()), True)
            self.assertIs(book.holds(named("a")), False)
            self.assertIs(book.holds(never()), False)
            self.assertIs(book.back(), False)
            self.assertIs(book.back(), False)

    def test_facts_in_their_order(self):
        facts = read("b", "a", "(a -> b)", "a", "1")
        book = Book(facts)
        self.assertEqual(book.facts, tuple(facts))
        self.assertEqual(len(book), 5)
        self.assertEqual(Book(tuple(facts)).facts, tuple(facts))

    def test_the_facts_are_copied(self):
        facts = read("a", "b")
        book = Book(facts)
        facts.append(named("c"))
        facts[0] = never()
        self.assertEqual(told(book), ["a", "b"])
        self.assertIs(book.holds(named("c")), False)

    def test_each_book_has_its_own(self):
        first, second = Book(), Book()
        first.tell(named("a"))
        self.assertEqual((len(first), len(second)), (1, 0))
        third = Book(first.facts)
        first.untell(0)
        self.assertEqual((len(first), len(third)), (0, 1))
        self.assertIs(second.back(), False)
        self.assertIs(third.back(), False)

    def test_clash(self):
        for texts in (("0",), ("a", "not a"), ("(a & not a)",), ("a", "(a -> 0)"), ("a", "(a same b)", "not b"), ("1", "not 1")):
            with self.assertRaises(errors.Clash) as caught:
                Book(read(*texts))
            self.assertIsInstance(caught.exception, errors.GradeError)
        # Half so, and half not, is no clash; under some joinings it is, but not under all.
        for texts in (("(a same not a)",), ("not not a",), ("(a max not a)",), ("not a",), ("a",), ("1",)):
            self.assertEqual(told(Book(read(*texts))), list(texts))

    def test_clash_under_all_joinings_alone(self):
        # Without a sum as the lowest stretch these would clash.
        book = Book(read("(a same not a)"))
        self.assertIs(book.holds(parsed("(a -> 0)")), False)
        self.assertRaises(errors.Clash, book.tell, parsed("a"))
        self.assertEqual(len(book), 1)


class Holding(unittest.TestCase):
    def test_holds(self):
        book = Book(read("a", "(a -> b)"))
        for text, wanted in (("a", True), ("b", True), ("(a & b)", True), ("c", False), ("(c -> b)", True), ("not a", False),
                             ("1", True), ("0", False), ("(b & (b & b))", True), ("(c max not c)", False)):
            self.assertIs(book.holds(parsed(text)), wanted, text)
        self.assertIs(book.holds(saying=named("b")), True)
        self.assertEqual(told(book), ["a", "(a -> b)"])

    def test_agrees(self):
        for one, other, wanted in (
            ((), (), True),
            ((), ("1",), True),
            ((), ("a",), False),
            (("a",), ("a", "a"), True),
            (("a", "b"), ("(a & b)",), True),
            (("a", "b"), ("(a min b)",), True),
            (("a", "b"), ("(a max b)",), False),
            (("a", "(a -> b)"), ("b", "a"), True),
            (("a", "(a -> b)"), ("b", "(b -> a)"), True),
            (("(a same b)",), ("(a -> b)", "(b -> a)"), True),
            (("(a same b)",), ("(a -> b)",), False),
            (("a",), ("b",), False),
            (("not not a",), ("a",), False),
        ):
            first, second = Book(read(*one)), Book(read(*other))
            self.assertIs(first.agrees(second), wanted, (one, other))
            self.assertIs(second.agrees(first), wanted, (one, other))
            self.assertIs(first.agrees(second=second), wanted)
            self.assertIs(first.agrees(first), True)
            self.assertEqual((told(first), told(second)), (list(one), list(other)))


class Changing(unittest.TestCase):
    def test_tell(self):
        book = Book()
        self.assertIs(book.tell(named("a")), False)
        self.assertIs(book.tell(parsed("(a -> b)")), False)
        self.assertIs(book.tell(named("b")), True)
        self.assertIs(book.tell(saying=named("b")), True)
        self.assertIs(book.tell(always()), True)
        self.assertEqual(told(book), ["a", "(a -> b)", "b", "b", "1"])
        self.assertEqual(len(book), 5)
        self.assertRaises(errors.Clash, book.tell, parsed("not b"))
        self.assertRaises(errors.Clash, book.tell, never())
        self.assertEqual(told(book), ["a", "(a -> b)", "b", "b", "1"])

    def test_untell(self):
        book = Book(read("a", "b", "c", "b"))
        self.assertEqual(str(book.untell(1)), "b")
        self.assertEqual(told(book), ["a", "c", "b"])
        self.assertEqual(str(book.untell(number=2)), "b")
        self.assertEqual(str(book.untell(0)), "a")
        self.assertEqual(told(book), ["c"])
        self.assertEqual(str(book.untell(0)), "c")
        self.assertEqual((book.facts, len(book)), ((), 0))
        for number in (0, 1, -1):
            with self.assertRaises(errors.NoFact) as caught:
                book.untell(number)
            self.assertEqual(caught.exception.number, number)

    def test_back(self):
        book = Book(read("a"))
        book.tell(named("b"))
        book.tell(named("c"))
        book.untell(1)
        book.untell(0)
        self.assertEqual(told(book), ["c"])
        for wanted in (["a", "c"], ["a", "b", "c"], ["a", "b"], ["a"]):
            self.assertIs(book.back(), True)
            self.assertEqual(told(book), wanted)
        for _ in range(3):
            self.assertIs(book.back(), False)
            self.assertEqual(told(book), ["a"])
        book.untell(0)
        self.assertIs(book.tell(named("d")), False)
        self.assertIs(book.back(), True)
        self.assertIs(book.tell(parsed("not a")), False)
        self.assertEqual(told(book), ["not a"])
        self.assertEqual((book.back(), book.back(), book.back()), (True, True, False))
        self.assertEqual(told(book), ["a"])

    def test_what_raised_an_error_is_not_taken_back(self):
        book = Book(read("a"))
        book.tell(named("b"))
        for call, thing, wanted in (
            (book.tell, parsed("not a"), errors.Clash),
            (book.tell, None, errors.InvalidSaying),
            (book.untell, 2, errors.NoFact),
            (book.untell, -1, errors.NoFact),
            (book.holds, "a", errors.InvalidSaying),
            (book.agrees, None, errors.InvalidBook),
        ):
            self.assertRaises(wanted, call, thing)
            self.assertEqual(told(book), ["a", "b"])
        self.assertIs(book.holds(named("b")), True)
        self.assertIs(book.agrees(Book(read("b", "a"))), True)
        self.assertIs(book.back(), True)
        self.assertEqual(told(book), ["a"])
        self.assertIs(book.back(), False)

    def test_what_was_told_before_stays(self):
        book = Book(read("a"))
        kept = book.facts
        book.tell(named("b"))
        book.untell(0)
        self.assertEqual([str(fact) for fact in kept], ["a"])

    def test_drawn_changes(self):
        rng = random.Random(190)
        for _ in range(60):
            book, facts, kept = Book(), [], []
            for _ in range(25):
                step = rng.choice(("tell", "tell", "untell", "back", "holds"))
                saying = drawn_saying(rng, rng.randint(1, 3), "ab")
                if step == "tell" and len(facts) < 6:
                    if follows(never(), [*facts, saying]):
                        self.assertRaises(errors.Clash, book.tell, saying)
                    else:
                        self.assertIs(book.tell(saying), follows(saying, facts))
                        kept.append(list(facts))
                        facts.append(saying)
                elif step == "untell" and facts:
                    number = rng.randrange(len(facts))
                    self.assertEqual(book.untell(number), facts[number])
                    kept.append(list(facts))
                    del facts[number]
                elif step == "back":
                    self.assertIs(book.back(), bool(kept))
                    facts = kept.pop() if kept else facts
                else:
                    self.assertIs(book.holds(saying), follows(saying, facts))
                self.assertEqual(book.facts, tuple(facts))
                self.assertEqual(len(book), len(facts))


class WrongArguments(unittest.TestCase):
    def refused(self, wanted, call, *things):
        with self.assertRaises(wanted) as caught:
            call(*things)
        return caught.exception

    def test_facts(self):
        for thing in [*not_lists(), sums(1), Book()]:
            self.assertIsNone(self.refused(errors.InvalidFacts, Book, thing).place)
        for thing in [*not_sayings(), sums(1), Book()]:
            for facts, place in (([thing], 0), ((never(), thing), 1), ([named("a"), never(), thing, None], 2)):
                self.assertEqual(self.refused(errors.InvalidFacts, Book, facts).place, place)

    def test_sayings(self):
        book = Book(read("a"))
        for thing in [*not_sayings(), sums(1), book]:
            self.assertIs(self.refused(errors.InvalidSaying, book.holds, thing).thing, thing)
            self.assertIs(self.refused(errors.InvalidSaying, book.tell, thing).thing, thing)
        self.assertIs(book.back(), False)

    def test_books(self):
        book = Book(read("a"))
        for thing in [*anything(), named("a"), sums(1), Book, read("a"), book.facts]:
            self.assertIs(self.refused(errors.InvalidBook, book.agrees, thing).thing, thing)

    def test_numbers(self):
        book = Book(read("a", "b"))
        for thing in [*anything(), 2, 3, -2, -3, (0,), "1", named("a"), book, (1, 2)]:
            if thing in (0, 1) and not isinstance(thing, bool):
                continue
            self.assertIs(self.refused(errors.NoFact, book.untell, thing).number, thing)
        self.assertEqual(told(book), ["a", "b"])
        self.assertIs(book.back(), False)

    def test_it_is_defined_in_its_module(self):
        self.assertEqual(Book.__module__, books.__name__)


if __name__ == "__main__":
    unittest.main()
