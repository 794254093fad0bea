"""Point 18 and the section "gradetalk/carrying.py" of the interface."""

import copy
import random
import unittest
from fractions import Fraction

from gradetalk import carrying, errors
from gradetalk.carrying import carried
from gradetalk.deciding import break_in
from gradetalk.degrees import degree, is_degree
from gradetalk.joinings import Joining, sums
from gradetalk.sayings import always, named, never
from gradetalk.texts import parsed
from tests.draws import drawn_saying, drawn_shape, joining_of
from tests.oracle import letters_of, pieces_of, told_parts, told_worth
from tests.things import BINARY, anything, not_degree_dicts, not_lists, not_sayings

PRODUCT = Joining([((0, 1), (1, 1), "product")])


def within(piece, top, bottom):
    """The degree in a piece that is top / bottom above its low end."""
    low, high = Fraction(*piece[0]), Fraction(*piece[1])
    worth = low + (high - low) * Fraction(top, bottom)
    return degree(worth.numerator, worth.denominator)


class Carrying(unittest.TestCase):
    def check(self, joining, degrees, sayings):
        told = carried(joining, degrees, sayings)
        self.assertIs(type(told), dict)
        letters = letters_of(sayings)
        self.assertEqual(sorted(told), letters)
        for worth in told.values():
            self.assertTrue(is_degree(worth))
            self.assertLess(worth[1], 10**4000)
        parts = {"0": never(), "1": always()}
        for saying in sayings:
            parts.update(told_parts(saying))
        many = len(letters) + 1
        pieces = [(Fraction(at, many), Fraction(at + 1, many), "sum") for at in range(many)]
        before = [told_worth(pieces_of(joining), part, degrees) for part in parts.values()]
        after = [told_worth(pieces, part, told) for part in parts.values()]
        for v, x in zip(before, after):
            for w, y in zip(before, after):
                self.assertIs(v <= w, x <= y, (joining.pieces, degrees, list(parts)))
        return told


class Known(Carrying):
    def carry(self, joining, degrees, *texts):
        return self.check(joining, degrees, [parsed(text) for text in texts])

    def test_no_names(self):
        self.assertEqual(carried(Joining(), {}, []), {})
        self.assertEqual(carried(PRODUCT, {"a": (1, 2)}, ()), {})
        self.assertEqual(carried(sums(3), {"b": (1, 2)}, [parsed("(0 & not 1)")]), {})

    def test_ends(self):
        for joining in (Joining(), PRODUCT, sums(1), sums(2), Joining([((1, 3), (2, 3), "sum")])):
            told = self.carry(joining, {"a": (0, 1), "b": (1, 1)}, "(a -> b)", "(b -> a)", "not a")
            self.assertEqual(told, {"a": (0, 1), "b": (1, 1)})

    def test_sums(self):
        told = self.carry(sums(1), {"a": (1, 3)}, "((a & a) -> not a)", "(not a & not a)")
        self.assertEqual(told, {"a": (1, 6)})
        self.carry(sums(2), {"a": (1, 2), "b": (3, 4)}, "((b & b) same a)", "(b -> a)", "not not b")
        self.carry(sums(3), {"a": (1, 6), "b": (1, 2), "c": (5, 6)}, "(((a & a) max (b & b)) max (c & c))", "not a")

    def test_products(self):
        # b is the square of a, or a little more or less than that.
        for b in ((1, 9), (10**30 + 1, 9 * 10**30), (10**30 - 3, 9 * 10**30)):
            b = degree(*b)
            told = self.carry(PRODUCT, {"a": (1, 3), "b": b}, "((a & a) -> b)", "(b -> (a & a))", "(b same (a & a))")
            self.assertEqual(told["a"] == told["b"], False)
        self.carry(PRODUCT, {"a": (2, 3), "b": (3, 5), "c": (4, 7)}, "((a & (a & a)) same (b & b))", "((c -> (b & c)) same a)")
        self.carry(PRODUCT, {"a": (2, 3), "b": (4, 9), "c": (8, 27)}, "((a & (a & a)) same c)", "((b & b) same (a & c))")
        self.carry(PRODUCT, {"a": (1, 2), "b": (1, 3)}, "((a & (a & a)) -> (b & b))", "not not (a & b)")

    def test_low_ends_of_products(self):
        joining = Joining([((1, 4), (1, 2), "product"), ((1, 2), (3, 4), "product")])
        for degrees in (
            {"a": (1, 4), "b": (3, 8)},
            {"a": (1, 2), "b": (3, 8)},
            {"a": (1, 2), "b": (5, 8)},
            {"a": (3, 4), "b": (5, 8)},
            {"a": (3, 4), "b": (7, 8)},
            {"a": (1, 4), "b": (1, 5)},
            {"a": (0, 1), "b": (1, 4)},
        ):
            self.carry(joining, degrees, "((b -> a) -> a)", "((a -> b) -> b)", "(a & b)", "(b & b)", "(a & a)", "not a")
        self.carry(PRODUCT, {"a": (0, 1), "b": (1, 2)}, "(b -> a)", "(b & b)", "not b")

    def test_what_a_sum_decides_of_a_product(self):
        # Whether a condition on a comes to 1 decides which both of b and b there is to keep in order with c.
        conditions = ("(a -> not a)", "(not a -> a)", "((a & a) -> not a)", "(not a -> (a & a))", "((a & a) same not a)", "not not a",
                      "(not (a & a) -> (a -> (a & a)))", "not (a & a)", "((a min not a) -> (a & (a & a)))", "((a max not a) same a)")
        joining = Joining([((0, 1), (1, 2), "sum"), ((1, 2), (1, 1), "product")])
        for top in range(13):
            for c in ((5, 8), (19, 32), (2, 3)):
                degrees = {"a": degree(top, 24), "b": (3, 4), "c": c}
                for text in conditions:
                    self.carry(joining, degrees, f"((({text} & b) & b) same c)")
                    self.carry(joining, degrees, f"((({text} -> c) & b) -> c)")
        for top in range(1, 24, 2):
            for bottom in (24, 34, 50):
                degrees = {"a": (1, 7), "b": degree(top, 2 * bottom), "c": (3, 4)}
                for text in ("(a -> b)", "(b -> a)", "(not a -> b)", "((a & b) -> not b)", "(b same (a & a))", "((not a & b) -> a)"):
                    self.carry(joining, degrees, f"((({text} & c) & (c & c)) & c)")

    def test_every_name_at_a_place_of_its_own(self):
        joining = Joining([((0, 1), (1, 4), "product"), ((1, 4), (1, 2), "sum"), ((1, 2), (3, 4), "product")])
        told = self.carry(joining, {"a": (1, 8), "b": (3, 8), "c": (5, 8)}, "((a & a) & ((b & b) & (c & c)))", "(not a max c)")
        self.assertTrue((1, 4) <= told["a"])
        self.assertEqual([4 * told[name][0] // told[name][1] for name in "abc"], [1, 2, 3])

    def test_twelve_pieces(self):
        rng = random.Random(180)
        for _ in range(20):
            kinds = [rng.choice(("sum", "product")) for _ in range(12)]
            joining = Joining([(degree(at, 12), degree(at + 1, 12), kind) for at, kind in enumerate(kinds)])
            degrees = {name: degree(rng.randint(0, 96), 96) for name in "abc"}
            self.carry(joining, degrees, "((a & (b & a)) same ((c -> a) & c))", "((b -> a) -> b)")

    def test_long_degrees(self):
        huge = 10**60 - 1
        degrees = {"a": degree(huge // 3, huge), "b": degree(huge // 3 + 1, huge), "c": degree(huge - 1, huge)}
        piece = (degree(1, huge), degree(huge - 2, huge - 1))
        for kind in ("sum", "product"):
            for joining in (Joining([(*piece, kind)]), Joining([((0, 1), (1, 1), kind)])):
                told = self.carry(joining, degrees, "((a & (b & (a & b))) same (b & (b & (c & (c & (c & c))))))")
                self.assertEqual(len(told), 3)

    def test_a_break_stays_a_break(self):
        for shape in (("product",), ("minimum", "product"), ("sum", "product", "sum")):
            saying = parsed("((a -> (a & a)) max (not not a -> (b max a)))")
            joining, degrees = break_in(shape, saying)
            told = self.check(joining, degrees, [saying])
            self.assertIs(sums(3).is_break(saying, [], told), True)


class Drawn(Carrying):
    def draw(self, rng):
        names = "abc"[: rng.choice((1, 2, 3, 3))]
        kinds = rng.choice((BINARY, BINARY, ("both", "then"), ("both", "same"), ("both", "then", "lower")))
        left, sayings = 21, []
        while left > 2 and rng.random() < 0.8:
            sayings.append(drawn_saying(rng, rng.randint(1, left), names, kinds))
            left -= sayings[-1].size
        joining = joining_of(drawn_shape(rng, rng.choice((1, 2, 3, 5, 9))), rng)
        degrees = {"z": (1, 7)}
        for name in names:
            if joining.pieces and rng.random() < 0.8:
                degrees[name] = within(rng.choice(joining.pieces), rng.choice((0, 3, 6, 9, 10, 11, 11, 12)), 12)
            else:
                degrees[name] = degree(rng.randint(0, 30), 30)
        if rng.random() < 0.3 and len(names) > 1:
            degrees["b"] = joining.both(degrees["a"], degrees["a"])
        return joining, degrees, sayings

    def test_all_pairs_of_parts(self):
        rng = random.Random(181)
        for _ in range(1200):
            self.check(*self.draw(rng))

    def test_breaks_stay_breaks(self):
        rng = random.Random(182)
        broken = 0
        for _ in range(150):
            saying = drawn_saying(rng, rng.randint(1, 14), "ab")
            facts = [drawn_saying(rng, rng.randint(1, 3), "ab") for _ in range(rng.randint(0, 2))]
            told = break_in(drawn_shape(rng, 4), saying, facts)
            if told is not None:
                broken += 1
                degrees = self.check(*told, [saying, *facts])
                many = len(letters_of([saying, *facts])) + 1
                self.assertIs(sums(many).is_break(saying, facts, degrees), True)
        self.assertGreater(broken, 50)


class Arguments(Carrying):
    def refused(self, wanted, *things):
        with self.assertRaises(wanted) as caught:
            carried(*things)
        return caught.exception

    def test_by_name(self):
        degrees = {"a": (1, 2), "b": (2, 3)}
        told = carried(sayings=(parsed("(a -> b)"),), degrees=degrees, joining=PRODUCT)
        self.assertEqual(told, carried(PRODUCT, degrees, [parsed("(a -> b)")]))

    def test_other_names_do_not_matter(self):
        sayings = [parsed("(a -> (a & b))")]
        told = carried(PRODUCT, {"a": (1, 2), "b": (2, 3)}, sayings)
        self.assertEqual(carried(PRODUCT, {"c": (1, 3), "b": (2, 3), "z": (0, 1), "a": (1, 2)}, sayings), told)

    def test_told_again_and_anew(self):
        degrees, sayings = {"a": (1, 2), "b": (2, 3)}, [parsed("(a -> (a & b))")]
        first, second = carried(PRODUCT, degrees, sayings), carried(PRODUCT, degrees, sayings)
        self.assertEqual(first, second)
        self.assertIsNot(first, degrees)
        first.clear()
        self.assertEqual(carried(PRODUCT, degrees, sayings), second)
        self.assertEqual((degrees, len(sayings)), ({"a": (1, 2), "b": (2, 3)}, 1))

    def test_wrong_joinings(self):
        for thing in [*anything(), (), [((0, 1), (1, 1), "sum")], named("a"), Joining, ("sum",)]:
            for things in ((thing, {}, []), (thing, None, None), (thing, thing, thing)):
                self.assertIs(self.refused(errors.InvalidJoining, *things).thing, thing)

    def test_wrong_degrees(self):
        for thing in not_degree_dicts():
            kept = copy.deepcopy(thing)
            for sayings in ([], None, [named("a")], [None]):
                self.assertIs(self.refused(errors.InvalidDegrees, PRODUCT, thing, sayings).thing, thing)
            self.assertEqual(thing, kept)

    def test_wrong_sayings(self):
        for thing in [*not_lists(), sums(1)]:
            self.assertIsNone(self.refused(errors.InvalidSayings, PRODUCT, {}, thing).place)
        for thing in [*not_sayings(), sums(1)]:
            for sayings, place in (([thing], 0), ((named("a"), thing), 1), ([named("a"), named("b"), thing, None], 2)):
                self.assertEqual(self.refused(errors.InvalidSayings, PRODUCT, {}, sayings).place, place)

    def test_no_degree(self):
        for degrees, name in (({}, "a"), ({"a": (1, 2)}, "b"), ({"b": (1, 2), "c": (1, 2)}, "a"), ({"a": (0, 1), "b": (1, 1)}, "c")):
            sayings = [named("c"), parsed("(b -> a)"), always()]
            self.assertEqual(self.refused(errors.NoDegree, PRODUCT, degrees, sayings).name, name)
        self.assertEqual(self.refused(errors.NoDegree, PRODUCT, {}, [named("z"), named("y")]).name, "y")

    def test_it_is_defined_in_its_module(self):
        self.assertEqual(carried.__module__, carrying.__name__)


if __name__ == "__main__":
    unittest.main()
