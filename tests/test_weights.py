"""gradetalk.weights, against the oracle's way of taking out one unknown after another."""

import random
import unittest

from gradetalk.weights import weights_of
from tests.oracle import told_weights


def said(rows):
    """The rows as the oracle tells them."""
    letters = "abcdefgh"
    return [
        ({"": form[0], **{letters[at]: count for at, count in enumerate(form[1:])}}, ">" if strict else ">=")
        for form, strict in rows
    ]


class Weights(unittest.TestCase):
    def check(self, rows):
        weights = weights_of(rows)
        self.assertIs(weights is None, told_weights(said(rows)) is None, rows)
        if weights is None:
            return False
        self.assertIs(type(weights), tuple)
        self.assertEqual(len(weights), len(rows))
        self.assertTrue(all(type(weight) is int and weight >= 0 for weight in weights), weights)
        total = [sum(weight * form[at] for (form, _), weight in zip(rows, weights)) for at in range(len(rows[0][0]))]
        self.assertEqual(total[1:], [0] * (len(total) - 1))
        strict = any(weight > 0 for (_, strict), weight in zip(rows, weights) if strict)
        self.assertTrue(total[0] < 0 or (total[0] == 0 and strict), (rows, weights))
        return True

    def test_rows_without_unknowns(self):
        self.assertEqual(weights_of([((-1,), False)]), (1,))
        self.assertEqual(weights_of([((0,), True)]), (1,))
        self.assertIsNone(weights_of([((0,), False)]))
        self.assertIsNone(weights_of([((1,), True)]))
        self.assertTrue(self.check([((3,), True), ((-7,), False), ((0,), False)]))
        self.assertFalse(self.check([((3,), True), ((7,), False), ((0,), False)]))

    def test_one_unknown(self):
        self.assertEqual(weights_of([((0, 1), True), ((0, -1), False)]), (1, 1))
        self.assertEqual(weights_of([((0, 3), True), ((0, -2), False)]), (2, 3))
        self.assertIsNone(weights_of([((0, 1), False), ((0, -1), False)]))
        self.assertEqual(weights_of([((-1, 1), False), ((0, -1), False)]), (1, 1))

    def test_equal_rows(self):
        self.assertTrue(self.check([((0, 1, 1), False)] * 4 + [((0, -1, -1), True)] * 4))
        self.assertFalse(self.check([((0, 1, 1), False)] * 4 + [((0, -1, -1), False)] * 4))

    def test_drawn_rows(self):
        rng = random.Random(140)
        cannot = 0
        for _ in range(3000):
            many = rng.randint(0, 3)
            rows = []
            for _ in range(rng.randint(1, 9)):
                rows.append((tuple(rng.randint(-2, 2) for _ in range(many + 1)), rng.random() < 0.5))
            cannot += self.check(rows)
        self.assertTrue(500 < cannot < 2900, cannot)

    def test_more_unknowns(self):
        # v1 < v2 < .. < v7 < v1
        rows = []
        for at in range(7):
            form = [0] * 8
            form[1 + at], form[1 + (at + 1) % 7] = -1, 1
            rows.append((tuple(form), at == 3))
        self.assertEqual(weights_of(rows), (1,) * 7)
        self.assertIsNone(weights_of(rows[:-1]))


if __name__ == "__main__":
    unittest.main()
