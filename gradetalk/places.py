"""Places in a shape, and what the worths of sayings that lie there come to.

A worth is a tuple (rank, form). The rank is the number of a place, counted from the lowest one.
The form tells the fraction or the exponent there by integers: a number, and behind it, for each
unknown, how often it counts; at places that have neither it is (). A row is a tuple (form, strict)
that says of a form that it is at least 0, or above 0 if it is strict.

Most functions take the places by their words alone: "sum", "in", and any other words, as "low",
"at" and "one", for places that have neither fractions nor exponents; the last one is always "one".
"""


def places_of(shape, many):
    """The list of the places in a shape, from the lowest one, for this number of names."""
    found = []
    for at, kind in enumerate(shape):
        if kind == "sum":
            found.append(("sum", at))
        elif kind == "product":
            found.extend([("low", at), ("in", at)])
        else:
            # Never takes the lowest place of all, so there must be one more for the names.
            steps = many + 1 if at == 0 else many
            found.extend([("at", at, step) for step in range(steps)])
    found.append(("one",))
    return found


def words_of(shape, many):
    """The words of the places in a shape, from the lowest one."""
    return [place[0] for place in places_of(shape, many)]


def pattern_of(words, ranks):
    """The words of the places that are needed, and the ranks of the names among these.

    Where the names lie in the same order at places of the same sorts, all comes to the same, so it
    is enough to look at each pattern once.
    """
    used = sorted(set([0, len(words) - 1, *ranks]))
    sorts = [words[rank] if words[rank] in ("sum", "in") else "at" for rank in used]
    return (tuple(sorts), tuple([used.index(rank) for rank in ranks]))


def constant(value, many):
    """The form that is just a number, among this number of unknowns."""
    return (value,) + (0,) * many


def unknown(at, many):
    """The form that is just the unknown with the number at."""
    return (0,) * (at + 1) + (1,) + (0,) * (many - at - 1)


def sum_of(x, y):
    """The sum of two forms."""
    return tuple([p + q for p, q in zip(x, y)])


def difference(x, y):
    """The difference of two forms."""
    return tuple([p - q for p, q in zip(x, y)])


def never_at(words, many):
    """The worth of never."""
    return (0, constant(0, many) if words[0] == "sum" else ())


def always_at(words):
    """The worth of always."""
    return (len(words) - 1, ())


def name_at(words, rank, at, many):
    """The worth of the name with the number at, placed at a rank."""
    return (rank, unknown(at, many) if words[rank] in ("sum", "in") else ())


def name_rows(words, rank, at, many):
    """The list of the rows that this brings."""
    form = unknown(at, many)
    if words[rank] == "sum":
        return [(form, False), (difference(constant(1, many), form), True)]
    if words[rank] == "in":
        return [(form, True)]
    return []


def sides_of(kind, first, second, words):
    """The list of the sides of a saying, by its kind and the worths of its two pieces.

    A side is a tuple (rows, worth). Where the worth must be split, there are several sides in the
    order in which a paper tells them; otherwise there is one side, without rows.
    """
    rank = first[0]
    if second[0] != rank:
        return [([], _apart(kind, first, second, words))]
    if words[rank] not in ("sum", "in"):
        return [([], always_at(words) if kind in ("then", "same") else first)]
    if kind != "both":
        return _compared(kind, first, second, words)
    if words[rank] == "in":
        return [([], (rank, sum_of(first[1], second[1])))]
    return _both_at_sum(rank, sum_of(first[1], second[1]))


def _apart(kind, first, second, words):
    rises = first[0] < second[0]
    if kind == "then" and rises:
        return always_at(words)
    if kind == "then":
        return second
    if kind == "higher":
        return second if rises else first
    return first if rises else second


def _both_at_sum(rank, total):
    many = len(total) - 1
    one = constant(1, many)
    rest = difference(total, one)
    return [([(rest, False)], (rank, rest)), ([(difference(one, total), True)], (rank, constant(0, many)))]


def _compared(kind, first, second, words):
    rank = first[0]
    rise = difference(second[1], first[1])
    fall = difference(first[1], second[1])
    if words[rank] == "in":
        # A greater exponent stands for a lower degree.
        rise, fall = fall, rise
    one = always_at(words)
    below = (rank, _gap(words[rank], rise))
    above = (rank, _gap(words[rank], fall))
    if kind == "same":
        return [([(rise, True)], below), ([(rise, False), (fall, False)], one), ([(fall, True)], above)]
    if kind == "then":
        yes, no = one, above
    elif kind == "lower":
        yes, no = first, second
    else:
        yes, no = second, first
    return [([(rise, False)], yes), ([(fall, True)], no)]


def _gap(word, step):
    """The worth of then from the higher to the lower one of two that are this far apart."""
    if word == "in":
        return step
    return difference(constant(1, len(step) - 1), step)
