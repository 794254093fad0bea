"""Cells: all the values of some unknowns at which some rows hold.

The values of the unknowns are told by a tuple of integers: a common bottom, and behind it the top
of each unknown. (Where rows have no numbers, the bottom does not matter and may be 0.) So a row
holds for a cell's tuples and for their multiples, and each tuple of a cell is a sum of multiples
of its spans. A cell is never empty. This is the way of the double description.
"""

from math import gcd


class Cell:
    """A cell: its spans, none of which is a sum of multiples of others, and its rows by bits.

    zeros tells for each span the rows that come to 0 there; strict tells the strict rows; width is
    the number of the bits in use. Rows that hold by far, for all spans, need no bits.
    """

    def __init__(self, spans, zeros, strict, width):
        self.spans = spans
        self.zeros = zeros
        self.strict = strict
        self.width = width


def full_cell(places, length):
    """The cell of all tuples of a length that are 0 but at some places, and there from 0 on."""
    every = (1 << len(places)) - 1
    spans = [(0,) * place + (1,) + (0,) * (length - place - 1) for place in places]
    return Cell(spans, [every - (1 << bit) for bit in range(len(places))], 0, len(places))


def cut(cell, rows):
    """The cell where some rows hold, too, or None if there is nothing left."""
    for form, strict in rows:
        cell = _cut_once(cell, form, strict)
        if cell is None:
            return None
    return cell


def point_of(cell):
    """A tuple of the cell, with all its rows and, as far as that is easily had, small."""
    left = cell.strict
    chosen = []
    for span, zeros in zip(cell.spans, cell.zeros):
        # A strict row holds as soon as one span is taken for which it is not 0.
        if not chosen or (left & zeros) != left:
            chosen.append(span)
            left = left & zeros
    return tuple([sum(column) for column in zip(*chosen)])


def _cut_once(cell, form, strict):
    marks = [sum([p * q for p, q in zip(form, span)]) for span in cell.spans]
    least = min(marks)
    if least > 0 or (least == 0 and not strict):
        return cell
    bit = 1 << cell.width
    spans, zeros = [], []
    for span, zero, mark in zip(cell.spans, cell.zeros, marks):
        if mark >= 0:
            spans.append(span)
            zeros.append(zero if mark > 0 else zero | bit)
    for inner, outer in _crossed(cell.zeros, marks):
        spans.append(_between(cell.spans[inner], marks[inner], cell.spans[outer], marks[outer]))
        zeros.append((cell.zeros[inner] & cell.zeros[outer]) | bit)
    rows = cell.strict | bit if strict else cell.strict
    if not spans or (rows & _shared(zeros)) != 0:
        return None
    return Cell(spans, zeros, rows, cell.width + 1)


def _crossed(zeros, marks):
    """The list of the pairs of neighbours between which a row changes its sign, the inner one first."""
    inside = [at for at, mark in enumerate(marks) if mark > 0]
    outside = [at for at, mark in enumerate(marks) if mark < 0]
    return [(inner, outer) for inner in inside for outer in outside if _are_neighbours(zeros, inner, outer)]


def _are_neighbours(zeros, first, second):
    common = zeros[first] & zeros[second]
    for at, zero in enumerate(zeros):
        if (zero & common) == common and at != first and at != second:
            return False
    return True


def _between(inner, above, outer, below):
    """The sum of multiples of two spans for which a row comes to 0."""
    span = [above * q - below * p for p, q in zip(inner, outer)]
    shared = 0
    for value in span:
        shared = gcd(shared, value)
    return tuple([value // shared for value in span])


def _shared(zeros):
    common = zeros[0]
    for zero in zeros:
        common = common & zero
    return common
