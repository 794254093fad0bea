"""Point 4 and the section "gradetalk/degrees.py" of the interface."""

import copy
import unittest
from fractions import Fraction
from math import gcd

from gradetalk.degrees import at_most, degree, is_degree
from gradetalk.errors import InvalidDegree
from gradetalk.sayings import named
from tests.things import anything, not_degrees

# Integers of 60 digits; neighbours have no divisor in common.
HUGE = 10**60 - 1


def small_degrees():
    return [(top, bottom) for bottom in range(1, 9) for top in range(bottom + 1) if gcd(top, bottom) == 1]


class IsDegree(unittest.TestCase):
    def test_the_ends(self):
        self.assertIs(is_degree((0, 1)), True)
        self.assertIs(is_degree((1, 1)), True)

    def test_small_pairs(self):
        for top in range(-3, 13):
            for bottom in range(-3, 13):
                wanted = bottom >= 1 and 0 <= top <= bottom and gcd(top, bottom) == 1
                with self.subTest((top, bottom)):
                    self.assertIs(is_degree((top, bottom)), wanted)

    def test_what_is_none(self):
        for thing in not_degrees():
            with self.subTest(repr(thing)[:80]):
                self.assertIs(is_degree(thing), False)

    def test_integers_of_60_digits(self):
        self.assertIs(is_degree((HUGE - 1, HUGE)), True)
        self.assertIs(is_degree((1, HUGE)), True)
        self.assertIs(is_degree((0, HUGE)), False)
        self.assertIs(is_degree((HUGE, HUGE)), False)
        self.assertIs(is_degree((HUGE, HUGE - 1)), False)
        self.assertIs(is_degree((3, HUGE)), False)

    def test_by_name(self):
        self.assertIs(is_degree(thing=(1, 2)), True)

    def test_nothing_is_changed(self):
        for thing in (*not_degrees(), (1, 2)):
            before = copy.deepcopy(thing)
            is_degree(thing)
            self.assertEqual(thing, before)


class Degree(unittest.TestCase):
    def test_every_small_fraction(self):
        for bottom in range(1, 40):
            for top in range(bottom + 1):
                told = degree(top, bottom)
                self.assertIs(type(told), tuple)
                self.assertTrue(is_degree(told))
                self.assertEqual(Fraction(*told), Fraction(top, bottom))

    def test_the_ends(self):
        self.assertEqual(degree(0, 1), (0, 1))
        self.assertEqual(degree(0, 7), (0, 1))
        self.assertEqual(degree(1, 1), (1, 1))
        self.assertEqual(degree(7, 7), (1, 1))

    def test_integers_of_60_digits(self):
        self.assertEqual(degree(HUGE - 1, HUGE), (HUGE - 1, HUGE))
        self.assertEqual(degree(HUGE, HUGE), (1, 1))
        self.assertEqual(degree(0, HUGE), (0, 1))
        self.assertEqual(degree(HUGE // 9, HUGE), (1, 9))
        self.assertEqual(degree(2 * 10**59, 5 * 10**59), (2, 5))

    def test_by_name(self):
        self.assertEqual(degree(top=2, bottom=6), (1, 3))
        self.assertEqual(degree(bottom=6, top=2), (1, 3))

    def refused(self, top, bottom):
        with self.assertRaises(InvalidDegree) as caught:
            degree(top, bottom)
        return caught.exception.thing

    def test_a_wrong_top(self):
        for thing in not_degrees() + [(1, 2), 2**70 * -1]:
            if type(thing) is int and thing >= 0:
                continue
            with self.subTest(repr(thing)[:80]):
                self.assertIs(self.refused(thing, 3), thing)

    def test_a_wrong_bottom(self):
        for thing in not_degrees() + [(1, 2), 0, -1]:
            if type(thing) is int and thing >= 1:
                continue
            with self.subTest(repr(thing)[:80]):
                self.assertIs(self.refused(0, thing), thing)

    def test_a_bottom_of_0(self):
        self.assertEqual(self.refused(0, 0), 0)
        self.assertEqual(self.refused(5, 0), 0)

    def test_the_top_is_looked_at_first(self):
        self.assertEqual(self.refused("top", "bottom"), "top")
        self.assertEqual(self.refused(-1, 0), -1)
        self.assertIs(self.refused(True, False), True)

    def test_the_bottom_comes_ahead_of_both_together(self):
        self.assertEqual(self.refused(5, -2), -2)
        self.assertEqual(self.refused(5, None), None)

    def test_a_top_above_the_bottom(self):
        self.assertEqual(self.refused(2, 1), (2, 1))
        self.assertEqual(self.refused(6, 4), (6, 4))
        self.assertEqual(self.refused(HUGE, HUGE - 1), (HUGE, HUGE - 1))
        self.assertIs(type(self.refused(2, 1)), tuple)

    def test_the_same_call_again(self):
        self.assertEqual(degree(4, 6), degree(4, 6))


class AtMost(unittest.TestCase):
    def test_every_small_pair(self):
        for x in small_degrees():
            for y in small_degrees():
                with self.subTest((x, y)):
                    self.assertIs(at_most(x, y), Fraction(*x) <= Fraction(*y))

    def test_integers_of_60_digits(self):
        near, nearer = (HUGE - 2, HUGE - 1), (HUGE - 1, HUGE)
        self.assertIs(at_most(near, nearer), True)
        self.assertIs(at_most(nearer, near), False)
        self.assertIs(at_most(nearer, nearer), True)
        self.assertIs(at_most(nearer, (1, 1)), True)
        self.assertIs(at_most((1, 1), nearer), False)
        self.assertIs(at_most((1, HUGE), (0, 1)), False)

    def test_by_name(self):
        self.assertIs(at_most(x=(1, 3), y=(1, 2)), True)
        self.assertIs(at_most(y=(1, 3), x=(1, 2)), False)

    def refused(self, x, y):
        with self.assertRaises(InvalidDegree) as caught:
            at_most(x, y)
        return caught.exception.thing

    def test_wrong_degrees(self):
        for thing in not_degrees():
            with self.subTest(repr(thing)[:80]):
                self.assertIs(self.refused(thing, (1, 2)), thing)
                self.assertIs(self.refused((1, 2), thing), thing)
                self.assertIs(self.refused((0, 1), thing), thing)
                self.assertIs(self.refused(thing, (1, 1)), thing)

    def test_x_is_looked_at_first(self):
        self.assertEqual(self.refused((2, 4), [1, 2]), (2, 4))
        self.assertEqual(self.refused([1, 2], (2, 4)), [1, 2])

    def test_nothing_is_changed(self):
        for thing in anything():
            before = copy.deepcopy(thing)
            self.refused(thing, (1, 2))
            self.refused((1, 2), thing)
            self.assertEqual(thing, before)

    def test_a_saying_is_no_degree(self):
        saying = named("a")
        self.assertIs(self.refused(saying, (1, 2)), saying)


if __name__ == "__main__":
    unittest.main()
