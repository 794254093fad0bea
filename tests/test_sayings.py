"""Points 5 and 6 and the section "gradetalk/sayings.py" of the interface."""

import copy
import sys
import unittest

from gradetalk.errors import InvalidName, InvalidSaying, TooLarge
from gradetalk.sayings import Saying, always, named, never
from tests.things import BINARY, LETTERS, balanced, deep, leaning, not_names, not_sayings

SIGNS = {"both": " & ", "then": " -> ", "lower": " min ", "higher": " max ", "same": " same "}


def small_sayings():
    """Sayings of all kinds, each in a tree of at most two storeys, no two of them equal."""
    told = [named("a"), named("b"), never(), always()]
    told = told + [saying.denied() for saying in told]
    return told + [getattr(x, kind)(y) for kind in BINARY for x in told[:6] for y in told[:6]]


def told_parts(saying):
    """The parts by the words of the document."""
    found = []
    for piece in saying.pieces:
        found = found + [part for part in told_parts(piece) if part not in found]
    return found + [saying]


def told_text(saying):
    """The text by the words of the document."""
    texts = [told_text(piece) for piece in saying.pieces]
    if saying.kind == "denied":
        return "not " + texts[0]
    if saying.kind in SIGNS:
        return "(" + texts[0] + SIGNS[saying.kind] + texts[1] + ")"
    return {"never": "0", "always": "1"}.get(saying.kind, saying.letter)


def sayings_of_200():
    return [
        deep(200),
        balanced(200),
        *(leaning(199, kind, left).denied() for kind in BINARY for left in (True, False)),
    ]


class Names(unittest.TestCase):
    def test_every_letter(self):
        for letter in LETTERS:
            saying = named(letter)
            self.assertIsInstance(saying, Saying)
            self.assertEqual(saying.kind, "name")
            self.assertEqual(saying.pieces, ())
            self.assertEqual(saying.letter, letter)
            self.assertEqual(saying.size, 1)
            self.assertEqual(saying.names, (letter,))

    def test_by_name(self):
        self.assertEqual(named(name="q").letter, "q")

    def test_what_is_no_letter(self):
        for thing in not_names():
            with self.subTest(repr(thing)[:80]):
                with self.assertRaises(InvalidName) as caught:
                    named(thing)
                self.assertIs(caught.exception.thing, thing)

    def test_every_other_sign(self):
        for code in (10, *range(32, 127)):
            if chr(code) not in LETTERS:
                with self.assertRaises(InvalidName) as caught:
                    named(chr(code))
                self.assertEqual(caught.exception.thing, chr(code))

    def test_nothing_is_changed(self):
        for thing in not_names():
            before = copy.deepcopy(thing)
            self.assertRaises(InvalidName, named, thing)
            self.assertEqual(thing, before)


class Constants(unittest.TestCase):
    def test_never_and_always(self):
        for made, kind in ((never, "never"), (always, "always")):
            saying = made()
            self.assertIsInstance(saying, Saying)
            self.assertEqual(saying.kind, kind)
            self.assertEqual(saying.pieces, ())
            self.assertIsNone(saying.letter)
            self.assertEqual(saying.size, 1)
            self.assertEqual(saying.names, ())


class Properties(unittest.TestCase):
    def test_of_two_pieces(self):
        x, y = named("b").denied(), named("a")
        for kind in BINARY:
            with self.subTest(kind):
                saying = getattr(x, kind)(y)
                self.assertIsInstance(saying, Saying)
                self.assertEqual(saying.kind, kind)
                self.assertIs(type(saying.pieces), tuple)
                self.assertEqual(saying.pieces, (x, y))
                self.assertNotEqual(saying.pieces, (y, x))
                self.assertIsNone(saying.letter)
                self.assertEqual(saying.size, 4)
                self.assertEqual(saying.names, ("a", "b"))

    def test_of_one_piece(self):
        saying = (named("c") >> named("c")).denied()
        self.assertIsInstance(saying, Saying)
        self.assertEqual(saying.kind, "denied")
        self.assertEqual(saying.pieces, (named("c") >> named("c"),))
        self.assertIs(type(saying.pieces), tuple)
        self.assertIsNone(saying.letter)
        self.assertEqual(saying.size, 4)
        self.assertEqual(saying.names, ("c",))

    def test_other_by_name(self):
        x, y = named("a"), named("b")
        self.assertEqual(x.both(other=y), x & y)
        self.assertEqual(x.then(other=y), x >> y)
        self.assertEqual(x.lower(other=y), x.lower(y))
        self.assertEqual(x.higher(other=y), x.higher(y))
        self.assertEqual(x.same(other=y), x.same(y))

    def test_a_saying_with_itself(self):
        x = named("a") & named("b")
        for kind in BINARY:
            saying = getattr(x, kind)(x)
            self.assertEqual(saying.pieces, (x, x))
            self.assertEqual(saying.size, 7)
            self.assertEqual(saying.names, ("a", "b"))

    def test_names_in_order_of_the_letters(self):
        saying = named("z")
        for letter in "maqzbamx":
            saying = saying.then(named(letter)).both(always())
        self.assertEqual(saying.names, ("a", "b", "m", "q", "x", "z"))
        self.assertIs(type(saying.names), tuple)
        saying = never()
        for letter in reversed(LETTERS):
            saying = saying.higher(named(letter))
        self.assertEqual(saying.names, tuple(LETTERS))
        self.assertEqual((never() & always()).names, ())
        self.assertEqual(never().denied().names, ())

    def test_the_size_counts_every_node(self):
        for saying in small_sayings():
            self.assertEqual(saying.size, 1 + sum(piece.size for piece in saying.pieces))

    def test_only_names_have_a_letter(self):
        for saying in small_sayings():
            self.assertEqual(saying.letter is None, saying.kind != "name")

    def test_the_pieces_stay_as_they_were(self):
        for x in small_sayings():
            for y in small_sayings()[:10]:
                before = (str(x), x.size, x.names, str(y), y.size, y.names)
                for kind in BINARY:
                    getattr(x, kind)(y)
                x.denied()
                x.parts()
                self.assertEqual((str(x), x.size, x.names, str(y), y.size, y.names), before)


class WrongSayings(unittest.TestCase):
    def test_the_methods(self):
        for thing in not_sayings():
            for kind in BINARY:
                with self.subTest((kind, repr(thing)[:80])):
                    before = copy.deepcopy(thing)
                    with self.assertRaises(InvalidSaying) as caught:
                        getattr(named("a"), kind)(thing)
                    self.assertIs(caught.exception.thing, thing)
                    self.assertEqual(thing, before)

    def test_a_wrong_saying_comes_ahead_of_the_size(self):
        for kind in BINARY:
            with self.assertRaises(InvalidSaying) as caught:
                getattr(deep(200), kind)("a")
            self.assertEqual(caught.exception.thing, "a")

    def test_the_class_is_none(self):
        for kind in BINARY:
            self.assertRaises(InvalidSaying, getattr(named("a"), kind), Saying)


class Operators(unittest.TestCase):
    def test_both(self):
        x, y = named("a"), never()
        self.assertEqual(x & y, x.both(y))
        self.assertEqual((y & x).pieces, (y, x))

    def test_then(self):
        x, y = named("a"), never()
        self.assertEqual(x >> y, x.then(y))
        self.assertEqual((y >> x).pieces, (y, x))

    def test_denied(self):
        self.assertEqual(~named("a"), named("a").denied())
        self.assertEqual(~~named("a"), named("a").denied().denied())

    def test_then_binds_tighter(self):
        a, b, c = named("a"), named("b"), named("c")
        self.assertEqual(a & b >> c, a.both(b.then(c)))
        self.assertEqual(a >> b & c, a.then(b).both(c))

    def test_anything_else_on_the_other_side(self):
        x = named("a")
        for thing in not_sayings():
            with self.subTest(repr(thing)[:80]):
                with self.assertRaises(TypeError):
                    x & thing
                with self.assertRaises(TypeError):
                    thing & x
                with self.assertRaises(TypeError):
                    x >> thing
                with self.assertRaises(TypeError):
                    thing >> x

    def test_anything_else_beside_a_saying_of_200(self):
        with self.assertRaises(TypeError):
            deep(200) & "a"
        with self.assertRaises(TypeError):
            deep(200) >> None

    def test_in_place_makes_a_new_one(self):
        x = kept = named("a")
        x &= named("b")
        self.assertEqual(str(x), "(a & b)")
        x >>= never()
        self.assertEqual(str(x), "((a & b) -> 0)")
        self.assertEqual(kept, named("a"))


class Sizes(unittest.TestCase):
    def refused(self, action, *things):
        with self.assertRaises(TooLarge) as caught:
            action(*things)
        return caught.exception.size

    def test_exactly_200(self):
        self.assertEqual(deep(199).denied().size, 200)
        self.assertEqual((~deep(199)).size, 200)
        for first, second in ((100, 99), (99, 100), (198, 1), (1, 198)):
            x, y = deep(first), deep(second)
            for kind in BINARY:
                self.assertEqual(getattr(x, kind)(y).size, 200)
            self.assertEqual((x & y).size, 200)
            self.assertEqual((x >> y).size, 200)

    def test_201_and_more(self):
        self.assertEqual(self.refused(deep(200).denied), 201)
        self.assertEqual(self.refused(lambda: ~deep(200)), 201)
        for first, second in ((100, 100), (199, 1), (1, 199), (200, 1), (1, 200), (200, 200)):
            x, y = deep(first), deep(second)
            for kind in BINARY:
                self.assertEqual(self.refused(getattr(x, kind), y), first + second + 1)
            self.assertEqual(self.refused(lambda: x & y), first + second + 1)
            self.assertEqual(self.refused(lambda: x >> y), first + second + 1)

    def test_equal_parts_count_as_often_as_they_stand_there(self):
        x = named("a")
        while x.size < 127:
            x = x & x
        self.assertEqual(x.size, 127)
        self.assertEqual(len(x.parts()), 7)
        self.assertEqual(self.refused(x.then, x), 255)

    def test_what_was_refused_changes_nothing(self):
        x = deep(200)
        self.refused(x.denied)
        self.refused(x.both, x)
        self.assertEqual(x.size, 200)
        self.assertEqual(x, deep(200))


class Equality(unittest.TestCase):
    def test_made_alike(self):
        for x, y in zip(small_sayings(), small_sayings()):
            self.assertIs(x == y, True)
            self.assertIs(x != y, False)

    def test_made_otherwise(self):
        sayings = small_sayings()
        for at, x in enumerate(sayings):
            for second, y in enumerate(sayings):
                self.assertIs(x == y, at == second)
                self.assertIs(x != y, at != second)

    def test_the_order_and_the_grouping_count(self):
        a, b, c = named("a"), named("b"), named("c")
        self.assertFalse(a & b == b & a)
        self.assertFalse(a & (b & c) == (a & b) & c)
        self.assertFalse(a.denied() == a >> never())
        self.assertFalse((~a & b) == ~(a & b))
        self.assertFalse(never().denied() == always())

    def test_with_what_is_no_saying(self):
        x = named("a")
        for thing in not_sayings():
            self.assertIs(x == thing, False)
            self.assertIs(thing == x, False)
            self.assertIs(x != thing, True)

    def test_with_texts(self):
        for saying in small_sayings():
            self.assertIs(saying == str(saying), False)
            self.assertIs(str(saying) == saying, False)

    def test_large_ones(self):
        for at, x in enumerate(sayings_of_200()):
            for second, y in enumerate(sayings_of_200()):
                self.assertIs(x == y, at == second)
        self.assertFalse(deep(200) == deep(199))


class Texts(unittest.TestCase):
    def test_the_kinds(self):
        a, b = named("a"), named("b")
        self.assertEqual(str(a), "a")
        self.assertEqual(str(never()), "0")
        self.assertEqual(str(always()), "1")
        self.assertEqual(str(a.denied()), "not a")
        self.assertEqual(str(a.both(b)), "(a & b)")
        self.assertEqual(str(a.then(b)), "(a -> b)")
        self.assertEqual(str(a.lower(b)), "(a min b)")
        self.assertEqual(str(a.higher(b)), "(a max b)")
        self.assertEqual(str(a.same(b)), "(a same b)")

    def test_within_one_another(self):
        a, b, c = named("a"), named("b"), named("c")
        self.assertEqual(str(a >> (b & ~c)), "(a -> (b & not c))")
        self.assertEqual(str(~(a & b)), "not (a & b)")
        self.assertEqual(str(~~a), "not not a")
        self.assertEqual(str(~a & ~never()), "(not a & not 0)")
        self.assertEqual(str((a.lower(b)).same(b.higher(always()))), "((a min b) same (b max 1))")

    def test_by_the_words_of_the_document(self):
        for x in small_sayings():
            self.assertEqual(str(x), told_text(x))
            for y in small_sayings()[::7]:
                for kind in BINARY:
                    saying = getattr(x, kind)(y)
                    self.assertEqual(str(saying), told_text(saying))

    def test_large_ones(self):
        for saying in sayings_of_200():
            self.assertEqual(str(saying), told_text(saying))
            self.assertIs(type(str(saying)), str)


class Parts(unittest.TestCase):
    def texts(self, saying):
        return [str(part) for part in saying.parts()]

    def test_without_pieces(self):
        for saying in (named("k"), never(), always()):
            self.assertEqual(saying.parts(), [saying])

    def test_of_one_piece(self):
        self.assertEqual(self.texts(~~named("a")), ["a", "not a", "not not a"])

    def test_the_order(self):
        a, b, c = named("a"), named("b"), named("c")
        self.assertEqual(self.texts(b & a), ["b", "a", "(b & a)"])
        self.assertEqual(
            self.texts((b >> a) & (a >> ~c)),
            ["b", "a", "(b -> a)", "c", "not c", "(a -> not c)", "((b -> a) & (a -> not c))"],
        )

    def test_each_is_told_once(self):
        a = named("a")
        self.assertEqual(self.texts(a & a), ["a", "(a & a)"])
        x = ~a & ~named("a")
        self.assertEqual(self.texts(x >> x), ["a", "not a", "(not a & not a)", str(x >> x)])
        self.assertEqual(self.texts((x >> a) >> x), [*self.texts(x), str(x >> a), str((x >> a) >> x)])

    def test_by_the_words_of_the_document(self):
        sayings = small_sayings()
        for x in sayings:
            for y in sayings[::5]:
                for kind in BINARY:
                    saying = getattr(x, kind)(y)
                    self.assertEqual(saying.parts(), told_parts(saying))

    def test_large_ones(self):
        for saying in sayings_of_200():
            self.assertEqual(saying.parts(), told_parts(saying))

    def test_the_list_is_new(self):
        saying = named("a") & named("b")
        first = saying.parts()
        self.assertIs(type(first), list)
        self.assertIsNot(saying.parts(), first)
        first.clear()
        self.assertEqual(self.texts(saying), ["a", "b", "(a & b)"])

    def test_the_parts_are_sayings(self):
        for saying in small_sayings():
            for part in saying.parts():
                self.assertIsInstance(part, Saying)


class Depth(unittest.TestCase):
    """Python may be deep in calls already: no call here may need many more."""

    def setUp(self):
        self.deep = sayings_of_200()
        self.again = sayings_of_200()
        self.limit = sys.getrecursionlimit()
        frame, used = sys._getframe(), 0
        while frame is not None:
            frame, used = frame.f_back, used + 1
        sys.setrecursionlimit(used + 60)

    def tearDown(self):
        sys.setrecursionlimit(self.limit)

    def test_deep_sayings_need_no_deep_recursion(self):
        for x, y in zip(self.deep, self.again):
            self.assertTrue(x == y)
            self.assertEqual(len(x.parts()), len(y.parts()))
            self.assertEqual(str(x), str(y))
            self.assertEqual(x.names, y.names)
        saying = named("a")
        for _ in range(199):
            saying = ~saying
        self.assertEqual(saying.size, 200)
        saying = named("a")
        for _ in range(99):
            saying = named("b") >> saying
        self.assertEqual(saying.size, 199)


class Interface(unittest.TestCase):
    def test_the_methods_stand_in_the_class_itself(self):
        for name in (*BINARY, "denied", "parts", "__and__", "__rshift__", "__invert__", "__eq__", "__str__"):
            self.assertIn(name, vars(Saying))

    def test_it_is_defined_in_its_module(self):
        for thing in (Saying, named, never, always):
            self.assertEqual(thing.__module__, "gradetalk.sayings")


if __name__ == "__main__":
    unittest.main()
