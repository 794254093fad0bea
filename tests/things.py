"""Values for the tests: what point 2 calls "anything", and large or deep sayings."""

from gradetalk.sayings import always, named, never

LETTERS = "abcdefghijklmnopqrstuvwxyz"
BINARY = ("both", "then", "lower", "higher", "same")


def nested(depth, wrap):
    """Something within something else, depth times."""
    thing = wrap(None)
    for _ in range(depth - 1):
        thing = wrap(thing)
    return thing


def anything():
    """New values of every kind that point 2 calls "anything"; none is a degree, a name or a saying."""
    return [
        None,
        True,
        False,
        0,
        1,
        -1,
        7,
        10**99,
        -(10**99),
        "",
        "0",
        "A",
        "Z",
        "ab",
        "`",
        "{",
        "~",
        " ",
        "\n",
        "a\n",
        " a",
        "(a & b)",
        "x" * 5000,
        (),
        (1,),
        ("a",),
        (0, 1, 1),
        ((0, 1),),
        ((0, 1), (1, 1)),
        (named("a"), named("b")),
        [],
        [0, 1],
        ["a"],
        [named("a")],
        [0] * 5000,
        {},
        {"a": (1, 2)},
        {"top": 1, "bottom": 2},
        {"saying": named("a"), "list": [1, {"x": ()}]},
        nested(100, lambda inner: [inner]),
        nested(100, lambda inner: (inner,)),
        nested(100, lambda inner: (inner, 1)),
        nested(100, lambda inner: {"k": inner}),
    ]


def not_degrees():
    """Values that are no degrees, those that nearly are one among them."""
    near = [
        (2, 4),
        (0, 2),
        (2, 2),
        (5, 3),
        (1, 0),
        (0, 0),
        (-1, 2),
        (1, -2),
        (-1, -2),
        (0, -1),
        (True, 2),
        (True, True),
        (False, True),
        (0, True),
        (False, 1),
        (1, True),
        ("0", "1"),
        ("a", "b"),
        (None, None),
        (0, None),
        (None, 1),
        ([0], [1]),
        ((0,), (1,)),
        (0, 1, 1),
        (1, 2, 1),
        [0, 1],
        [1, 1],
        [1, 2],
        {"0": 1},
        "01",
        (named("a"), 1),
        (0, named("a")),
        (10**59, 8 * 10**59),
        (10**60 - 4, 10**60 - 2),
        named("a"),
        never(),
        always(),
    ]
    return near + anything()


def not_names():
    """Values that are none of the letters a to z."""
    return anything() + [(1, 2), named("a"), never(), always(), ["a", "b"], {"a": "a"}]


def not_sayings():
    """Values that are no sayings."""
    return anything() + [(1, 2), "a", "0", "1", ("name", "a"), ["a"]]


def deep(size):
    """A saying of this size, in which each node but the last has one piece."""
    saying = named("a")
    for _ in range(size - 1):
        saying = saying.denied()
    return saying


def leaning(size, kind, left):
    """A saying of this odd size, put together by one kind, that leans to the left or to the right."""
    saying = named("a")
    for at in range((size - 1) // 2):
        other = named(LETTERS[at % 26])
        first, second = (saying, other) if left else (other, saying)
        saying = getattr(first, kind)(second)
    return saying


def balanced(size):
    """A saying of this size that branches evenly and has many names."""
    if size == 1:
        return named("z")
    if size == 2:
        return named("y").denied()
    half = (size - 1) // 2
    return balanced(half).then(balanced(size - 1 - half))


def not_lists():
    """Values that are neither lists nor tuples."""
    return [thing for thing in anything() if not isinstance(thing, (list, tuple))] + [named("a"), "ab", {0: 1}]


def not_shapes():
    """Values that are no shapes, those that nearly are one among them."""
    near = [
        ("minimum", "minimum"),
        ("sum", "minimum", "minimum", "product"),
        ("sum", "product", "minimum", "minimum"),
        ("Sum",),
        ("sum ",),
        ("su",),
        ("",),
        ("sum", ""),
        ("sum", None),
        ("sum", "minimum", 1),
        ("lower",),
        ("both",),
        ("in",),
        ("one",),
        ("low", 0),
        (("sum",),),
        ("sum", ("product",)),
        ("sum", ["product"]),
        ("sum", {"product": 1}),
        ("sum", named("a")),
        ["sum"],
        ["minimum"],
        ["sum", "product"],
        [("sum",)],
        "sum",
        "minimum",
        {"sum": 1},
        {0: "sum"},
        3,
    ]
    return near + anything()


def not_degree_dicts():
    """Values that are no dicts with degrees for letters."""
    near = [
        {"a": (2, 4)},
        {"a": (1, 2), "b": (3, 2)},
        {"a": (1, 2), "b": None},
        {"a": [1, 2]},
        {"a": 1},
        {"a": True},
        {"a": named("a")},
        {"A": (1, 2)},
        {"ab": (1, 2)},
        {"": (1, 2)},
        {"0": (1, 2)},
        {"`": (1, 2)},
        {"{": (1, 2)},
        {"a": (1, 2), "b ": (1, 2)},
        {1: (1, 2)},
        {None: (1, 2)},
        {("a",): (1, 2)},
        [("a", (1, 2))],
        (("a", (1, 2)),),
        "a",
        named("a"),
    ]
    return near + [thing for thing in anything() if thing not in ({}, {"a": (1, 2)})]
