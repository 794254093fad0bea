"""The cells with which breaks are found: the values of unknowns at which rows hold."""

import itertools
import random
import unittest
from fractions import Fraction
from math import gcd

from gradetalk.cells import cut, full_cell, point_of
from tests.oracle import told_weights

LETTERS = "abc"


def box(many):
    """The cell of all fractions of so many unknowns, and its rows."""
    rows = []
    for at in range(many):
        one = tuple(int(at + 1 == place) for place in range(many + 1))
        rows += [(one, False), (tuple(int(place == 0) - value for place, value in enumerate(one)), True)]
    return cut(full_cell(range(many + 1), many + 1), rows), rows


def drawn_row(rng, many, number=True):
    form = [rng.randint(-3, 3) for _ in range(many + 1)]
    if not number:
        form[0] = 0
    return tuple(form), rng.random() < 0.5


def told_rows(rows):
    """The rows as the oracle takes them."""
    return [
        ({"": form[0], **dict(zip(LETTERS, form[1:]))}, ">" if strict else ">=")
        for form, strict in rows
    ]


def holds(row, point):
    value = sum(p * q for p, q in zip(row[0], point))
    return value > 0 if row[1] else value >= 0


def solved(lines, many):
    """The one point at which so many forms come to 0, or None."""
    lines = [[Fraction(value) for value in line] for line in lines]
    for at in range(many):
        pivot = next((line for line in lines[at:] if line[at + 1]), None)
        if pivot is None:
            return None
        lines.remove(pivot)
        lines.insert(at, pivot)
        for other in range(many):
            if other != at:
                factor = lines[other][at + 1] / pivot[at + 1]
                lines[other] = [p - factor * q for p, q in zip(lines[other], pivot)]
    return (1, *(-lines[at][0] / lines[at][at + 1] for at in range(many)))


def corners_of(rows, many):
    """All corners of the values at which rows hold, if strict ones may come to 0, too."""
    found = set()
    for chosen in itertools.combinations([form for form, _ in rows], many):
        point = solved(chosen, many)
        if point is not None and all(holds((form, False), point) for form, _ in rows):
            found.add(point)
    return found


class Cells(unittest.TestCase):
    def test_drawn_rows(self):
        rng = random.Random(31)
        empty = 0
        for _ in range(600):
            many = rng.randint(1, 3)
            cell, rows = box(many)
            for _ in range(rng.randint(1, 7)):
                row = drawn_row(rng, many)
                rows.append(row)
                cell = cut(cell, [row])
                if cell is None:
                    break
                point = point_of(cell)
                self.assertTrue(all(holds(row, point) for row in rows), rows)
            self.assertEqual(cell is None, told_weights(told_rows(rows)) is not None, rows)
            if cell is None:
                empty += 1
                continue
            corners = {tuple(Fraction(value, span[0]) for value in span) for span in cell.spans}
            self.assertEqual(len(corners), len(cell.spans))
            self.assertEqual(corners, corners_of(rows, many))
            self.assertEqual({gcd(*span) for span in cell.spans}, {1})
        self.assertTrue(100 < empty < 500, empty)

    def test_drawn_rows_without_numbers(self):
        rng = random.Random(32)
        empty = 0
        for _ in range(600):
            many = rng.randint(1, 3)
            rows = [(tuple(int(at + 1 == place) for place in range(many + 1)), True) for at in range(many)]
            cell = cut(full_cell(range(1, many + 1), many + 1), rows)
            for _ in range(rng.randint(1, 5)):
                row = drawn_row(rng, many, number=False)
                rows.append(row)
                cell = cut(cell, [row])
                if cell is None:
                    break
                point = point_of(cell)
                self.assertTrue(all(value >= 1 for value in point[1:]))
                self.assertTrue(all(holds(row, point) for row in rows), rows)
            self.assertEqual(cell is None, told_weights(told_rows(rows)) is not None, rows)
            empty += cell is None
        self.assertTrue(100 < empty < 500, empty)

    def test_a_cut_changes_nothing(self):
        cell, _ = box(2)
        before = (list(cell.spans), list(cell.zeros), cell.strict, cell.width)
        cut(cell, [((-1, 1, 1), True), ((0, 1, -1), False)])
        self.assertEqual((cell.spans, cell.zeros, cell.strict, cell.width), before)

    def test_points_are_small(self):
        cell, _ = box(1)
        self.assertEqual(point_of(cut(cell, [((-1, 2), False), ((1, -2), False)])), (2, 1))
        self.assertEqual(point_of(cut(cell, [((-1, 3), False)])), (4, 2))
        self.assertEqual(point_of(cell), (1, 0))
        cone = cut(full_cell([1, 2], 3), [((0, 1, 0), True), ((0, 0, 1), True), ((0, 2, -1), False), ((0, -2, 1), False)])
        self.assertEqual(point_of(cone), (0, 1, 2))


if __name__ == "__main__":
    unittest.main()
