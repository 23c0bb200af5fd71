"""What several tests hand in: numbers of many figures, and things of every kind."""

FORTY = 10 ** 40 - 1
OTHER_FORTY = 10 ** 39 + 7

# Nought, both signs, whole ones, neighbours, and numbers of forty figures; all in lowest terms.
FRACTIONS = [
    (0, 1), (1, 1), (-1, 1), (2, 1), (-7, 1), (1, 2), (-1, 2), (2, 3), (-2, 3), (3, 4), (5, 6),
    (-5, 6), (7, 12), (99, 100), (100, 99), (FORTY, 1), (-FORTY, 1), (1, FORTY), (-1, FORTY),
    (FORTY, FORTY - 1), (-FORTY, FORTY - 1), (FORTY - 1, FORTY), (OTHER_FORTY, 10 ** 39), (-10 ** 39, OTHER_FORTY),
]


def nested(kind, depth):
    """Something nested so deep, of lists, of tuples or of dicts."""
    thing = 1
    for _ in range(depth):
        if kind == "list":
            thing = [thing, 2]
        elif kind == "tuple":
            thing = (thing, 2)
        else:
            thing = {"a": thing, "b": 2}
    return thing


def other_things():
    """Things that are neither a fraction nor a hap, new at each call."""
    return [
        None, True, False, 0, 1, -1, FORTY, "", "1/2", "(1, 2)", "12", "ab",
        (), [], {}, (1,), [1, 2], {1: 2, 2: 3}, {0: 1, 1: 2}, (None, None), ("1", "2"), ("", ""), ([], []), ({}, {}),
        [(1, 2), (1, 3)], [[1, 2], [1, 3]], ["a"] * 10000, (0,) * 10000, (1,) * 9999, "1" * 2000, ("1" * 2000, "2"),
        {k: k for k in range(5000)}, ([0] * 5000, (0,) * 4999),
        nested("list", 60), nested("tuple", 60), nested("dict", 60),
        (nested("list", 59), 1), (1, nested("tuple", 59)), (nested("tuple", 59), nested("dict", 59)),
    ]
