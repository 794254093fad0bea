"""Looking in a shape for a place of each name at which a saying and facts have a break."""

from gradetalk.cells import cut, full_cell, point_of
from gradetalk.places import name_at, name_rows, pattern_of, places_of


def spots_in(shape, plan):
    """The list of the spots of the names in a break, or None if there is no break in the shape.

    A spot is a tuple (place, top, bottom): top / bottom is the fraction or the exponent there. An
    exponent is an integer, and at places without either it is 0 / 1.
    """
    many = len(plan.letters)
    places = places_of(shape, many)
    words = [place[0] for place in places]
    demands = _demands(plan)
    seen = set()
    ranks = (0,) * many
    while ranks is not None:
        pattern = pattern_of(words, ranks)
        if pattern not in seen:
            seen.add(pattern)
            cells = _broken_cells(plan, demands, pattern[0], pattern[1])
            if cells is not None:
                return [_spot(places[ranks[at]], cells[pattern[1][at]], at) for at in range(many)]
        ranks = _following(ranks, len(places))
    return None


def _following(ranks, count):
    """The tuple of ranks below count that comes next as digits are counted up, or None."""
    for at in reversed(range(len(ranks))):
        if ranks[at] + 1 < count:
            return ranks[:at] + (ranks[at] + 1,) + (0,) * (len(ranks) - at - 1)
    return None


def _demands(plan):
    """What a break needs, by the numbers of steps: whether the step lies at one, or does not.

    The list of tuples (number, wanted) holds the facts, the saying and what these need of pieces.
    """
    found = [(number, True) for number in plan.given]
    found.append((plan.goal, False))
    at = 0
    while at < len(found):
        number, wanted = found[at]
        kind, first, second = plan.steps[number]
        if (kind in ("both", "lower") and wanted) or (kind == "higher" and not wanted):
            found.extend([(first, wanted), (second, wanted)])
        elif kind == "then" and not wanted:
            found.append((second, wanted))
        at += 1
    return found


def _broken_cells(plan, demands, words, ranks):
    """The cells, by ranks, of some break with the names at these ranks, or None."""
    waiting = [_placed(plan, words, ranks)]
    while waiting:
        known, cells = waiting.pop()
        if not _can_break(known, demands, len(words) - 1):
            continue
        if None not in known:
            return cells
        number = known.index(None)
        rank = known[plan.steps[number][1]][0]
        for rows, worth in plan.sides(known, number, words):
            cell = cut(cells[rank], rows)
            if cell is not None:
                others = list(cells)
                others[rank] = cell
                waiting.append((plan.with_worth(known, number, worth, words), others))
    return None


def _can_break(known, demands, top):
    for number, wanted in demands:
        if known[number] is not None and (known[number][0] == top) != wanted:
            return False
    return True


def _placed(plan, words, ranks):
    """What is known when all names are placed at their ranks, and the cells, by ranks, then."""
    many = len(ranks)
    known = plan.start(words)
    for at, rank in enumerate(ranks):
        known = plan.with_worth(known, plan.numbers[plan.letters[at]], name_at(words, rank, at, many), words)
    cells = [_cell_at(words, ranks, rank) for rank in range(len(words))]
    return (known, cells)


def _cell_at(words, ranks, rank):
    """The cell of the fractions or exponents of the names at a rank, or None at other places."""
    if words[rank] not in ("sum", "in"):
        return None
    many = len(ranks)
    there = [at for at in range(many) if ranks[at] == rank]
    places = [at + 1 for at in there]
    if words[rank] == "sum":
        places = [0] + places
    cell = full_cell(places, many + 1)
    for at in there:
        cell = cut(cell, name_rows(words, rank, at, many))
    return cell


def _spot(place, cell, at):
    if cell is None:
        return (place, 0, 1)
    point = point_of(cell)
    return (place, point[at + 1], point[0] if place[0] == "sum" else 1)
