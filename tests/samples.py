"""Books and helpers that several test files share."""


def zeros(cells):
    """Return a row of zeros of a book with that many cells."""
    return [0] * (cells + 2)


def ones(cells):
    """Return a row of ones of a book with that many cells."""
    return [1] * (cells + 2)


def rich_bodies():
    """Return the bodies of a book of two cells with every kind of statement."""
    return [
        [
            ("set", 1, [1, -9, 9, 0]),
            ("call", 2, [0, 0, 0, 1], [
                [("call", 0, [2, 0, 0, 0], [[("end", 1)], [("carry", [0, 1, 0, 0])]])],
                [("keep", [0, 1], [("call", 1, [0, 1, 0, 0], [[], []])])],
            ]),
            ("end", 0),
            ("again", []),
        ],
        [],
        [
            ("either", [("again", [("either", [("end", 0)], [("set", 0, [0, 0, 0, 0])])])], []),
            ("keep", [], []),
            ("call", 2, [1, 0, 0, -1], [[("end", 1)], []]),
        ],
    ]


RICH_PATHS = [
    (0, (0,)),
    (0, (1,)),
    (0, (1, 0, 0)),
    (0, (1, 0, 0, 0, 0)),
    (0, (1, 0, 0, 1, 0)),
    (0, (1, 1, 0)),
    (0, (1, 1, 0, 0, 0)),
    (0, (2,)),
    (0, (3,)),
    (2, (0,)),
    (2, (0, 0, 0)),
    (2, (0, 0, 0, 0, 0)),
    (2, (0, 0, 0, 0, 0, 0, 0)),
    (2, (0, 0, 0, 0, 0, 1, 0)),
    (2, (1,)),
    (2, (2,)),
    (2, (2, 0, 0)),
]

RICH_CALLS = [(0, (1,)), (0, (1, 0, 0)), (0, (1, 1, 0, 0, 0)), (2, (2,))]


def wrapped(statement, path):
    """Return a body in which a statement stands at a path, everything ahead of it being harmless."""
    ahead = [("end", 0)] * path[0]
    if len(path) == 1:
        return [*ahead, statement]
    inner = wrapped(statement, path[2:])
    if path[1] == 1:
        return [*ahead, ("either", [], inner)]
    return [*ahead, ("again", inner)]


def lists_in(value):
    """Return all lists inside of a value, itself included, once for each place."""
    found = [value] if isinstance(value, list) else []
    if isinstance(value, (list, tuple)):
        for item in value:
            found.extend(lists_in(item))
    return found


def spoil(value):
    """Change each list inside of a value, at every depth."""
    for found in lists_in(value):
        found.reverse()
        found.append("spoiled")
