"""Weights that show that rows cannot all be so.

They are looked for in the way of the simplex, with integers alone. Each line of the table says what
weights must come to: for each unknown, 0; and last of all 1, so that not all of them are 0. Lines that
do not come to that yet hold a makeshift instead of a weight.
"""

from math import gcd


def weights_of(rows):
    """The tuple of weights from 0 on, one for each row, or None if the rows can all be so.

    In the sum of the rows, each times its weight, all unknowns fall out, and what is left is below 0,
    or 0 with a strict row that counts.
    """
    lines = _lines(rows)
    lacks = [-sum(column) for column in zip(*lines)]
    held = list(range(-len(lines), 0))
    scale = 1
    while lacks[-1] != 0:
        entering = [at for at, lack in enumerate(lacks[:-1]) if lack < 0]
        if not entering:
            return None
        # Always the first one that will do, so that the same table never comes again.
        column = entering[0]
        chosen = _leaving(lines, held, column)
        pivot = lines[chosen]
        lines = [_turned(line, pivot, column, scale) for line in lines]
        lines[chosen] = pivot
        lacks = _turned(lacks, pivot, column, scale)
        held[chosen] = column
        scale = pivot[column]
    return _told(lines, held, len(rows))


def _lines(rows):
    """The table: a column for each row, one for what may be left below 0, and what the line comes to."""
    columns = [list(form) for form, strict in rows]
    lines = []
    for at in range(len(columns[0])):
        line = [column[at] for column in columns]
        if at == 0:
            lines.append(line + [1, 0])
        elif [value for value in line if value != 0]:
            lines.append(line + [0, 0])
    lines.append([1 if strict else 0 for form, strict in rows] + [1, 1])
    return lines


def _leaving(lines, held, column):
    """The place of the line that first comes to 0 as the weight of the column grows."""
    best = None
    for at, line in enumerate(lines):
        if line[column] > 0 and (best is None or _sooner(lines, held, column, at, best)):
            best = at
    return best


def _sooner(lines, held, column, at, best):
    one = lines[at][-1] * lines[best][column]
    other = lines[best][-1] * lines[at][column]
    return one < other or (one == other and held[at] < held[best])


def _turned(line, pivot, column, scale):
    """The line without the column, which the pivot's line takes; all entries stay integers."""
    return [(value * pivot[column] - line[column] * other) // scale for value, other in zip(line, pivot)]


def _told(lines, held, many):
    weights = [0] * (many + 1)
    for line, number in zip(lines, held):
        if number >= 0:
            weights[number] = line[-1]
    shared = 0
    for weight in weights[:many]:
        shared = gcd(shared, weight)
    return tuple([weight // shared for weight in weights[:many]])
