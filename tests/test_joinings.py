"""Points 7 to 11 and the section "gradetalk/joinings.py" of the interface."""

import copy
import itertools
import random
import unittest
from fractions import Fraction

from gradetalk import errors
from gradetalk.degrees import degree, is_degree
from gradetalk.joinings import Joining, sums
from gradetalk.sayings import Saying, always, named, never
from gradetalk.texts import parsed
from tests.draws import STRETCHES, drawn_degrees, drawn_saying, drawn_shape, joining_of
from tests.oracle import pieces_of, told_both, told_is_break, told_shape, told_then, told_worth
from tests.things import (
    BINARY, LETTERS, anything, balanced, deep, leaning, not_degree_dicts, not_degrees, not_lists, not_sayings,
)

ZERO, HALF, ONE = (0, 1), (1, 2), (1, 1)
HUGE = 10**60 - 1
TWENTY_FOURTHS = [degree(top, 24) for top in range(25)]


def some_joinings():
    """Joinings with pieces that share an end, that touch 0 and 1, with gaps, and told in any order."""
    return [
        Joining(),
        Joining([(ZERO, ONE, "sum")]),
        Joining([(ZERO, ONE, "product")]),
        Joining([((1, 4), (3, 4), "sum")]),
        Joining([((1, 4), (3, 4), "product")]),
        Joining([(HALF, ONE, "sum"), (ZERO, HALF, "product")]),
        Joining([(ZERO, HALF, "sum"), (HALF, ONE, "product")]),
        Joining([((1, 3), (1, 2), "sum"), ((1, 8), (1, 3), "sum")]),
        Joining([((1, 3), (1, 2), "product"), ((1, 8), (1, 3), "product")]),
        Joining([((5, 6), ONE, "product"), (ZERO, (1, 6), "sum"), ((1, 3), (2, 3), "product")]),
        Joining([((1, 6), (1, 3), "product"), ((5, 8), (3, 4), "sum"), ((3, 4), (7, 8), "product"), ((1, 3), HALF, "sum")]),
        sums(1),
        sums(3),
        Joining([(degree(at, 12), degree(at + 1, 12), ("sum", "product")[at % 2]) for at in reversed(range(12))]),
    ]


def bad_pieces():
    """Things that are no piece, those that nearly are one among them."""
    near = [
        (ZERO, ONE),
        (ZERO, ONE, "sum", 1),
        (ZERO, ONE, "minimum"),
        (ZERO, ONE, "Sum"),
        (ZERO, ONE, ""),
        (ZERO, ONE, None),
        (ZERO, ONE, ("sum",)),
        (ZERO, ONE, ["sum"]),
        (ZERO, ONE, named("a")),
        ("sum", ZERO, ONE),
        (ONE, ZERO, "sum"),
        (HALF, HALF, "sum"),
        (ZERO, ZERO, "product"),
        (ONE, ONE, "product"),
        ((1, 2), (1, 3), "sum"),
        ((0, 2), ONE, "sum"),
        (ZERO, (2, 2), "sum"),
        (ZERO, (2, 4), "sum"),
        (ZERO, (3, 2), "sum"),
        ((-1, 2), ONE, "sum"),
        (0, 1, "sum"),
        (False, True, "sum"),
        (ZERO, [1, 1], "sum"),
        ([0, 1], ONE, "sum"),
        ((0, True), ONE, "sum"),
        (ZERO, (True, 1), "sum"),
        (ZERO, None, "sum"),
        (None, ONE, "sum"),
        [ZERO, ONE, "sum"],
        {"low": ZERO, "high": ONE, "kind": "sum"},
        "sum",
        Joining(),
    ]
    return near + anything()


class Making(unittest.TestCase):
    def test_the_pieces_go_up(self):
        pieces = [(degree(at, 6), degree(at + 1, 6), kind) for at, kind in ((0, "sum"), (1, "product"), (3, "sum"), (5, "product"))]
        for row in itertools.permutations(pieces):
            joining = Joining(list(row))
            self.assertEqual(joining.pieces, tuple(pieces))
            self.assertIs(type(joining.pieces), tuple)
            self.assertEqual(Joining(row), joining)
            self.assertEqual(joining.shape, ("sum", "product", "minimum", "sum", "minimum", "product"))

    def test_without_pieces(self):
        for joining in (Joining(), Joining([]), Joining(()), Joining(pieces=[])):
            self.assertEqual(joining.pieces, ())
            self.assertEqual(joining.shape, ("minimum",))

    def test_by_name(self):
        self.assertEqual(Joining(pieces=((ZERO, HALF, "sum"),)).pieces, ((ZERO, HALF, "sum"),))

    def test_the_shape(self):
        for pieces, shape in (
            ([(ZERO, ONE, "sum")], ("sum",)),
            ([(ZERO, ONE, "product")], ("product",)),
            ([(ZERO, HALF, "sum")], ("sum", "minimum")),
            ([(HALF, ONE, "sum")], ("minimum", "sum")),
            ([((1, 3), HALF, "product")], ("minimum", "product", "minimum")),
            ([(ZERO, HALF, "sum"), (HALF, ONE, "sum")], ("sum", "sum")),
            ([(ZERO, (1, 3), "sum"), (HALF, ONE, "product")], ("sum", "minimum", "product")),
            ([(ZERO, (HUGE - 1, HUGE), "sum")], ("sum", "minimum")),
            ([(ZERO, HALF, "sum"), ((10**59 // 2 + 1, 10**59), ONE, "sum")], ("sum", "minimum", "sum")),
        ):
            self.assertEqual(Joining(pieces).shape, shape)
            self.assertIs(type(Joining(pieces).shape), tuple)

    def test_every_shape_is_the_shape_of_some_joining(self):
        for length in range(1, 5):
            for shape in itertools.product(STRETCHES, repeat=length):
                if ("minimum", "minimum") in zip(shape, shape[1:]):
                    continue
                joining = joining_of(shape, random.Random(str(shape)))
                self.assertEqual(joining.shape, shape)
                self.assertEqual(told_shape(pieces_of(joining)), shape)

    def test_later_changes_have_no_effect(self):
        pieces = [(ZERO, HALF, "sum")]
        joining = Joining(pieces)
        pieces.append((HALF, ONE, "product"))
        pieces[0] = None
        self.assertEqual(joining.pieces, ((ZERO, HALF, "sum"),))
        self.assertEqual(joining.shape, ("sum", "minimum"))
        self.assertEqual(joining.both((1, 4), (1, 4)), ZERO)

    def test_the_argument_is_not_changed(self):
        pieces = [(HALF, ONE, "sum"), (ZERO, HALF, "product")]
        before = copy.deepcopy(pieces)
        Joining(pieces)
        self.assertEqual(pieces, before)

    def test_equality(self):
        for at, x in enumerate(some_joinings()):
            for second, y in enumerate(some_joinings()):
                same = x.pieces == y.pieces
                self.assertEqual(same, at == second or {at, second} == {1, 11})
                self.assertIs(x == y, same)
                self.assertIs(x != y, not same)
        self.assertFalse(Joining([(ZERO, ONE, "sum")]) == Joining([(ZERO, ONE, "product")]))
        self.assertTrue(sums(1) == Joining([(ZERO, ONE, "sum")]))

    def test_equality_with_other_things(self):
        for joining in (Joining(), sums(1)):
            for thing in [*anything(), joining.pieces, joining.shape, named("a")]:
                self.assertIs(joining == thing, False)
                self.assertIs(thing == joining, False)
                self.assertIs(joining != thing, True)


class WrongPieces(unittest.TestCase):
    def refused(self, pieces):
        with self.assertRaises(errors.InvalidPieces) as caught:
            Joining(pieces)
        return caught.exception.place

    def test_no_list(self):
        for thing in [*not_lists(), sums(1), {"a": (ZERO, ONE, "sum")}]:
            before = copy.deepcopy(thing)
            with self.subTest(repr(thing)[:80]):
                self.assertIsNone(self.refused(thing))
                self.assertEqual(thing, before)

    def test_no_piece(self):
        good = (ZERO, (1, 4), "sum")
        for thing in bad_pieces():
            before = copy.deepcopy(thing)
            with self.subTest(repr(thing)[:80]):
                self.assertEqual(self.refused([thing]), 0)
                self.assertEqual(self.refused((thing,)), 0)
                self.assertEqual(self.refused([good, thing]), 1)
                self.assertEqual(self.refused((good, good, thing, None)), 2)
                self.assertEqual(thing, before)

    def test_the_first_one_is_told(self):
        self.assertEqual(self.refused([None, None]), 0)
        self.assertEqual(self.refused([(ZERO, ONE, "sum"), (HALF, HALF, "sum"), 3]), 1)

    def test_no_piece_comes_ahead_of_an_overlap(self):
        self.assertEqual(self.refused([(ZERO, ONE, "sum"), (ZERO, ONE, "sum"), None]), 2)


class Overlaps(unittest.TestCase):
    def refused(self, *ends):
        with self.assertRaises(errors.Overlap) as caught:
            Joining([(degree(low, 12), degree(high, 12), "product") for low, high in ends])
        return (caught.exception.first, caught.exception.second)

    def test_two_pieces(self):
        for second in ((0, 12), (3, 6), (4, 5), (3, 4), (5, 6), (2, 4), (5, 7), (2, 7), (0, 4)):
            self.assertEqual(self.refused((3, 6), second), (0, 1))
            self.assertEqual(self.refused(second, (3, 6)), (0, 1))

    def test_by_little(self):
        low = (10**59 - 1, 10**59)
        with self.assertRaises(errors.Overlap):
            Joining([(ZERO, ONE, "sum"), (low, ONE, "sum")])
        near = (10**59 - 2, 10**59 - 1)
        self.assertTrue(Fraction(*near) < Fraction(*low))
        with self.assertRaises(errors.Overlap):
            Joining([(ZERO, low, "sum"), (near, ONE, "sum")])
        self.assertEqual(Joining([(ZERO, near, "sum"), (low, ONE, "sum")]).shape, ("sum", "minimum", "sum"))

    def test_a_shared_end_is_none(self):
        for low, middle, high in ((0, 5, 12), (0, 1, 2), (10, 11, 12)):
            pieces = [(degree(low, 12), degree(middle, 12), "sum"), (degree(middle, 12), degree(high, 12), "product")]
            self.assertEqual(Joining(pieces).pieces, tuple(pieces))
            self.assertEqual(Joining(pieces[::-1]).pieces, tuple(pieces))

    def test_the_least_second_one_and_for_it_the_least_first_one(self):
        self.assertEqual(self.refused((0, 2), (2, 4), (1, 3), (0, 12)), (0, 2))
        self.assertEqual(self.refused((2, 4), (0, 1), (3, 5), (0, 12)), (0, 2))
        self.assertEqual(self.refused((0, 1), (2, 4), (5, 6), (3, 6), (0, 12)), (1, 3))
        self.assertEqual(self.refused((0, 1), (1, 2), (2, 3), (3, 4), (4, 5), (4, 5)), (4, 5))
        self.assertEqual(self.refused((5, 6), (0, 1), (0, 1), (5, 6)), (1, 2))

    def test_drawn_ones(self):
        rng = random.Random(70)
        for _ in range(500):
            ends = [sorted(rng.sample(range(13), 2)) for _ in range(rng.randint(2, 6))]
            meeting = [
                (second, first) for second in range(len(ends)) for first in range(second)
                if max(ends[first][0], ends[second][0]) < min(ends[first][1], ends[second][1])
            ]
            if meeting:
                self.assertEqual(self.refused(*ends), min(meeting)[::-1])
            else:
                pieces = [(degree(low, 12), degree(high, 12), "sum") for low, high in ends]
                self.assertEqual(Joining(pieces).pieces, tuple(sorted(pieces, key=lambda piece: Fraction(*piece[0]))))


class Sums(unittest.TestCase):
    def test_small_counts(self):
        self.assertEqual(sums(1).pieces, ((ZERO, ONE, "sum"),))
        self.assertEqual(sums(2).pieces, ((ZERO, HALF, "sum"), (HALF, ONE, "sum")))
        self.assertEqual(sums(count=4).pieces[1:3], (((1, 4), HALF, "sum"), (HALF, (3, 4), "sum")))
        for count in range(1, 13):
            joining = sums(count)
            self.assertIsInstance(joining, Joining)
            self.assertEqual(joining.shape, ("sum",) * count)
            self.assertEqual({Fraction(*high) - Fraction(*low) for low, high, _ in joining.pieces}, {Fraction(1, count)})
            self.assertTrue(all(is_degree(end) for piece in joining.pieces for end in piece[:2]))

    def test_wrong_counts(self):
        for thing in [*anything(), 0, -1, -(10**99), (1, 2), "1", sums(1), True, False]:
            if type(thing) is int and thing > 0:
                continue
            before = copy.deepcopy(thing)
            with self.subTest(repr(thing)[:80]):
                with self.assertRaises(errors.InvalidShape) as caught:
                    sums(thing)
                self.assertIs(caught.exception.thing, thing)
                self.assertEqual(thing, before)


class BothAndThen(unittest.TestCase):
    def test_the_edges_of_one_piece(self):
        for kind, both, then in (("sum", (1, 4), (5, 8)), ("product", (5, 16), HALF)):
            joining = Joining([((1, 4), (3, 4), kind)])
            self.assertEqual(joining.both((3, 8), HALF), both)
            self.assertEqual(joining.then(HALF, (3, 8)), then)
            for x in ((1, 4), (3, 8), HALF, (3, 4)):
                self.assertEqual(joining.both(x, (3, 4)), x)
                self.assertEqual(joining.both((1, 4), x), (1, 4))
                self.assertEqual(joining.then((3, 4), x), x if x != (3, 4) else ONE)
            for x in ((1, 4), (3, 8), (3, 4)):
                for y in (ZERO, (1, 8), (7, 8), ONE):
                    self.assertEqual(joining.both(x, y), min(x, y, key=lambda end: Fraction(*end)))
            self.assertEqual(joining.then((7, 8), (3, 4)), (3, 4))
            self.assertEqual(joining.then((7, 8), HALF), HALF)
            self.assertEqual(joining.then(HALF, (1, 8)), (1, 8))
            self.assertEqual(joining.then(HALF, (1, 4)), (HALF if kind == "sum" else (1, 4)))

    def test_one_sum_one_product_and_the_minimum(self):
        one_sum, product = sums(1), Joining([(ZERO, ONE, "product")])
        self.assertEqual(one_sum.both((3, 4), HALF), (1, 4))
        self.assertEqual(one_sum.both((1, 4), HALF), ZERO)
        self.assertEqual(one_sum.then((3, 4), HALF), (3, 4))
        self.assertEqual(one_sum.then(ONE, ZERO), ZERO)
        self.assertEqual(product.both((3, 4), HALF), (3, 8))
        self.assertEqual(product.then((3, 4), HALF), (2, 3))
        self.assertEqual(product.then((3, 4), ZERO), ZERO)
        self.assertEqual(product.then(ZERO, ZERO), ONE)
        self.assertEqual(Joining().both((3, 4), HALF), HALF)
        self.assertEqual(Joining().then((3, 4), HALF), HALF)

    def test_a_shared_end(self):
        for kinds in itertools.product(("sum", "product"), repeat=2):
            joining = Joining([((1, 4), HALF, kinds[0]), (HALF, (3, 4), kinds[1])])
            self.assertEqual(joining.both(HALF, HALF), HALF)
            for x in TWENTY_FOURTHS:
                wanted = min(x, HALF, key=lambda end: Fraction(*end))
                self.assertEqual(joining.both(x, HALF), wanted)
                self.assertEqual(joining.both(HALF, x), wanted)

    def test_all_pairs_of_twenty_fourths(self):
        for joining in some_joinings():
            pieces = pieces_of(joining)
            for x in TWENTY_FOURTHS:
                for y in TWENTY_FOURTHS:
                    both, then = joining.both(x, y), joining.then(x, y)
                    self.assertTrue(is_degree(both) and is_degree(then))
                    self.assertEqual(Fraction(*both), told_both(pieces, Fraction(*x), Fraction(*y)))
                    self.assertEqual(Fraction(*then), told_then(pieces, Fraction(*x), Fraction(*y)))

    def test_what_joinings_are(self):
        for joining in some_joinings():
            points = [degree(top, 8) for top in range(9)] + [(1, 3), (2, 3), (1, 6), (5, 6)]
            value = {(x, y): Fraction(*joining.both(x, y)) for x in points for y in points}
            for x in points:
                self.assertEqual(joining.both(ONE, x), x)
                for y in points:
                    self.assertEqual(value[x, y], value[y, x])
                    told = joining.then(x, y)
                    self.assertTrue(Fraction(*joining.both(x, told)) <= Fraction(*y))
                    for z in points:
                        self.assertEqual(joining.both(joining.both(x, y), z), joining.both(x, joining.both(y, z)))
                        self.assertEqual(value[x, z] <= Fraction(*y), Fraction(*z) <= Fraction(*told))
                        if Fraction(*y) <= Fraction(*z):
                            self.assertLessEqual(value[x, y], value[x, z])

    def test_the_pieces_told_in_any_order(self):
        pieces = some_joinings()[10].pieces
        for row in itertools.permutations(pieces):
            for x, y in (((1, 4), (7, 24)), ((2, 3), (17, 24)), ((19, 24), (5, 6)), ((5, 12), (11, 24)), (HALF, (1, 3))):
                self.assertEqual(Joining(row).both(x, y), Joining(pieces).both(x, y))

    def test_integers_of_60_digits(self):
        x, y = (HUGE - 1, HUGE), (HUGE - 8, HUGE - 7)
        low, high = (1, HUGE - 4), (HUGE - 1, HUGE)
        for kind in ("sum", "product"):
            joining = Joining([(low, high, kind)])
            for v, w in itertools.product((x, y, low, high, HALF, ONE, ZERO, (2, HUGE - 2)), repeat=2):
                self.assertEqual(
                    Fraction(*joining.both(v, w)), told_both(pieces_of(joining), Fraction(*v), Fraction(*w)))
                self.assertEqual(
                    Fraction(*joining.then(v, w)), told_then(pieces_of(joining), Fraction(*v), Fraction(*w)))
                self.assertTrue(is_degree(joining.both(v, w)) and is_degree(joining.then(v, w)))

    def test_by_name(self):
        self.assertEqual(sums(1).both(x=(3, 4), y=HALF), (1, 4))
        self.assertEqual(sums(1).then(y=HALF, x=(3, 4)), (3, 4))

    def test_wrong_degrees(self):
        joining = sums(2)
        for thing in not_degrees():
            before = copy.deepcopy(thing)
            for method in (joining.both, joining.then):
                for x, y in ((thing, HALF), (HALF, thing), (thing, None), (ONE, thing), (ZERO, thing)):
                    with self.assertRaises(errors.InvalidDegree) as caught:
                        method(x, y)
                    self.assertIs(caught.exception.thing, thing)
            self.assertEqual(thing, before)


class Worth(unittest.TestCase):
    def test_the_kinds(self):
        degrees = {"a": (3, 4), "b": HALF}
        for text, worth in (
            ("a", (3, 4)), ("0", ZERO), ("1", ONE), ("not a", (1, 4)), ("(a & b)", (1, 4)), ("(a -> b)", (3, 4)),
            ("(b -> a)", ONE), ("(a min b)", HALF), ("(a max b)", (3, 4)), ("(a same b)", (3, 4)), ("(b same a)", (3, 4)),
            ("not 0", ONE), ("not 1", ZERO), ("(a same a)", ONE), ("not (a & b)", (3, 4)),
        ):
            self.assertEqual(sums(1).worth(parsed(text), degrees), worth, text)
        self.assertEqual(Joining().worth(parsed("not a"), degrees), ZERO)
        self.assertEqual(Joining().worth(parsed("(a same b)"), degrees), HALF)
        self.assertEqual(Joining([(ZERO, ONE, "product")]).worth(parsed("(a same b)"), degrees), (2, 3))

    def test_drawn_ones(self):
        rng = random.Random(8)
        for joining in some_joinings():
            for _ in range(60):
                saying = drawn_saying(rng, rng.randint(1, 25), "abcz")
                degrees = drawn_degrees(rng, "abcxz")
                worth = joining.worth(saying, degrees)
                self.assertTrue(is_degree(worth))
                self.assertEqual(Fraction(*worth), told_worth(pieces_of(joining), saying, degrees))

    def test_by_name(self):
        self.assertEqual(sums(1).worth(degrees={"a": HALF}, saying=named("a")), HALF)

    def test_the_arguments_are_not_changed(self):
        degrees = {"b": HALF, "a": (3, 4)}
        saying = parsed("(a & b)")
        first = sums(1).worth(saying, degrees)
        self.assertEqual(degrees, {"b": HALF, "a": (3, 4)})
        self.assertEqual(list(degrees), ["b", "a"])
        self.assertEqual(sums(1).worth(saying, dict(sorted(degrees.items()))), first)

    def test_200_nodes(self):
        pieces = [((1, HUGE), (HUGE // 2, HUGE), "product"), ((HUGE // 2, HUGE), (HUGE - 1, HUGE), "sum")]
        degrees = {name: degree(HUGE // 3 + 10**at, HUGE - at) for at, name in enumerate(LETTERS)}
        every = [deep(200), balanced(200)]
        every += [leaning(199, kind, left).denied() for kind in BINARY for left in (True, False)]
        for joining in (Joining(), Joining(pieces), sums(12), Joining([(ZERO, ONE, "product")])):
            for saying in every:
                worth = joining.worth(saying, degrees)
                self.assertTrue(is_degree(worth))
                self.assertEqual(Fraction(*worth), told_worth(pieces_of(joining), saying, degrees))

    def test_many_equal_parts(self):
        saying = named("a")
        for _ in range(6):
            saying = saying & saying
        product = Joining([(ZERO, ONE, "product")])
        self.assertEqual(product.worth(saying, {"a": (HUGE - 1, HUGE)}), ((HUGE - 1) ** 64, HUGE**64))


class IsBreak(unittest.TestCase):
    def test_facts_and_saying(self):
        a, b = named("a"), named("b")
        joining, degrees = sums(1), {"a": ONE, "b": HALF}
        self.assertIs(joining.is_break(b, [], degrees), True)
        self.assertIs(joining.is_break(a, [], degrees), False)
        self.assertIs(joining.is_break(b, [a], degrees), True)
        self.assertIs(joining.is_break(b, [b], degrees), False)
        self.assertIs(joining.is_break(a, [b], degrees), False)
        self.assertIs(joining.is_break(b, [a, a, a], degrees), True)
        self.assertIs(joining.is_break(b, [a, b, a], degrees), False)
        self.assertIs(joining.is_break(b, (a, b >> a), degrees), True)
        self.assertIs(joining.is_break(never(), [], {}), True)
        self.assertIs(joining.is_break(always(), [], {}), False)
        self.assertIs(joining.is_break(never(), [never()], {}), False)
        self.assertIs(joining.is_break(~~b >> b, [], degrees), False)
        self.assertIs(Joining().is_break(~~b >> b, [], degrees), True)

    def test_by_name(self):
        self.assertIs(sums(1).is_break(degrees={"a": HALF}, facts=(), saying=named("a")), True)

    def test_drawn_ones(self):
        rng = random.Random(11)
        told = []
        for joining in some_joinings():
            for _ in range(60):
                saying = drawn_saying(rng, rng.randint(1, 9), "abc")
                facts = [drawn_saying(rng, rng.randint(1, 5), "abc") for _ in range(rng.randint(0, 2))]
                degrees = drawn_degrees(rng, "abc", 4)
                told.append(joining.is_break(saying, facts, degrees))
                self.assertIs(told[-1], told_is_break(pieces_of(joining), saying, facts, degrees))
        self.assertTrue(50 < sum(told) < len(told) - 50)

    def test_large_sayings(self):
        big = leaning(199, "then", True)
        degrees = {name: (HUGE - at - 2, HUGE - at - 1) for at, name in enumerate(LETTERS)}
        for joining in some_joinings():
            for facts in ([], [balanced(200)] * 6, [deep(200), ~never()], [never() >> deep(198)] * 3):
                told = told_is_break(pieces_of(joining), big, facts, degrees)
                self.assertIs(joining.is_break(big, facts, degrees), told)

    def test_nothing_is_changed(self):
        facts, degrees = [named("b"), named("a")], {"b": ONE, "a": ONE}
        for _ in range(2):
            self.assertIs(sums(2).is_break(never(), facts, degrees), True)
            self.assertEqual([str(fact) for fact in facts], ["b", "a"])
            self.assertEqual(degrees, {"b": ONE, "a": ONE})


class WrongArguments(unittest.TestCase):
    def refused(self, wanted, call, *things):
        with self.assertRaises(wanted) as caught:
            call(*things)
        return caught.exception

    def test_wrong_sayings(self):
        for thing in [*not_sayings(), sums(1), Saying]:
            before = copy.deepcopy(thing)
            for error in (
                self.refused(errors.InvalidSaying, sums(1).worth, thing, {}),
                self.refused(errors.InvalidSaying, sums(1).worth, thing, None),
                self.refused(errors.InvalidSaying, sums(1).is_break, thing, [], {}),
                self.refused(errors.InvalidSaying, sums(1).is_break, thing, None, None),
            ):
                self.assertIs(error.thing, thing)
            self.assertEqual(thing, before)

    def test_wrong_facts(self):
        a = named("a")
        for thing in not_lists():
            error = self.refused(errors.InvalidFacts, sums(1).is_break, a, thing, None)
            self.assertIsNone(error.place)
        for thing in [*not_sayings(), sums(1)]:
            for facts, place in (([thing], 0), ((a, thing), 1), ([a, a, thing, None], 2)):
                before = copy.deepcopy(facts)
                error = self.refused(errors.InvalidFacts, sums(1).is_break, a, facts, {"a": 1})
                self.assertEqual(error.place, place)
                self.assertEqual(len(facts), len(before))

    def test_wrong_degrees(self):
        a = named("a")
        for thing in not_degree_dicts():
            before = copy.deepcopy(thing)
            with self.subTest(repr(thing)[:80]):
                for error in (
                    self.refused(errors.InvalidDegrees, sums(1).worth, a, thing),
                    self.refused(errors.InvalidDegrees, sums(1).worth, always(), thing),
                    self.refused(errors.InvalidDegrees, sums(1).is_break, a, [a], thing),
                    self.refused(errors.InvalidDegrees, sums(1).is_break, always(), (), thing),
                ):
                    self.assertIs(error.thing, thing)
                self.assertEqual(thing, before)

    def test_names_without_degrees(self):
        saying = parsed("((z & c) -> (m & c))")
        for degrees, name in (
            ({}, "c"), ({"c": HALF}, "m"), ({"c": HALF, "m": HALF}, "z"), ({"z": HALF}, "c"), ({"z": HALF, "m": HALF}, "c"),
            ({"a": HALF, "c": HALF, "z": ONE}, "m"),
        ):
            self.assertEqual(self.refused(errors.NoDegree, sums(1).worth, saying, degrees).name, name)
            self.assertEqual(self.refused(errors.NoDegree, sums(1).is_break, saying, [], degrees).name, name)
            self.assertEqual(self.refused(errors.NoDegree, sums(1).is_break, always(), [always(), saying], degrees).name, name)
        error = self.refused(errors.NoDegree, sums(1).is_break, named("m"), [named("z"), named("b")], {})
        self.assertEqual(error.name, "b")
        error = self.refused(errors.NoDegree, sums(1).is_break, named("a"), [named("z"), named("b")], {"b": ONE})
        self.assertEqual(error.name, "a")
        # Also where the worths of the others would be enough to tell.
        self.refused(errors.NoDegree, sums(1).is_break, named("b"), [named("a")], {"a": ZERO})
        self.refused(errors.NoDegree, sums(1).worth, never() & named("b"), {"a": ZERO})

    def test_other_names_do_not_matter(self):
        degrees = {name: (1, at + 2) for at, name in enumerate(LETTERS)}
        self.assertEqual(sums(1).worth(named("c"), degrees), (1, 4))
        self.assertIs(sums(1).is_break(named("c"), [], degrees), True)
        self.assertIs(sums(1).is_break(never(), [], degrees), True)


class Interface(unittest.TestCase):
    def test_the_methods_stand_in_the_class_itself(self):
        for name in ("both", "then", "worth", "is_break", "__eq__"):
            self.assertIn(name, vars(Joining))

    def test_it_is_defined_in_its_module(self):
        for thing in (Joining, sums):
            self.assertEqual(thing.__module__, "gradetalk.joinings")

    def test_drawn_shapes_are_told_alike(self):
        rng = random.Random(12)
        for _ in range(200):
            shape = drawn_shape(rng, 12)
            joining = joining_of(shape, rng)
            self.assertEqual(joining.shape, shape)


if __name__ == "__main__":
    unittest.main()
