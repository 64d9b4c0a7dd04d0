"""Values of every kind that the document calls "any value"."""


def nested(depth, kind):
    """A value of one kind, nested so deep."""
    value = 1
    for _ in range(depth):
        value = {"list": [value], "tuple": (value,), "dict": {1: value}}[kind]
    return value


def any_values():
    """Values that are neither places, weights, records, lists of records nor ids."""
    deep = [nested(depth, kind) for depth in (1, 2, 30) for kind in ("list", "tuple", "dict")]
    return deep + [
        True, False, -1, -10**60, 10**60, 10**400,
        "", " ", "-", "--", "~", "\n", "a b", "A", "shelf\n", "overlongname",
        (), (None,), ((), ()), (True, 1), [None], [[]], ["shelf"], {}, {None: None},
        {"a": [1, (2, {3: "x"})]}, {(1, (2, 3)): []}, {True: False}, {-1: -1},
    ]


BAD_COSTS = any_values() + [None, 0, 1001, 10**6, "10", (10,), [10]]
BAD_WEIGHTS = any_values() + [None, 0, 1001, "sure", "3", (3,), [3]]
BAD_RECORDS = any_values() + [
    None, 5, "move 1 0 - a 5 3", [9, 0, "a", 5, 3], [(9, 0, "a", 5, 3)], ((9, 0, "a", 5, 3),),
    (9, 0, "-", "a", 5), (9, 0, "a", 5), (9, 0, "-", 5, 3), (9, 0, "a", "a", 5, 3), (9, 0, "-", "-", 5, 3),
    (0, 0, "a", 5, 3), (10**6 + 1, 0, "a", 5, 3), (9, -1, "a", 5, 3), (9, 10**6 + 1, "a", 5, 3),
    (9, 0, "a", -1, 3), (9, 0, "a", 10**6 + 1, 3), (9, 0, "a", 5, 0), (9, 0, "a", 5, 1001), (9, 0, "a", 5, "sure"),
    (True, 0, "a", 5, 3), (9, False, "a", 5, 3), (9, 0, "a", True, 3), (9, 0, "a", 5, True),
    (9, 0, "A", 5, 3), (9, 0, "", 5, 3), (9, 0, "ninesigns", 5, 3), (9, 0, ["a"], 5, 3), ([9], 0, "a", 5, 3),
]


def unknown_ids(records):
    """Values that are not the id of a record."""
    return any_values() + [None, 0, 999, 10**6, "1", (1,), [1], {1: 1}, records[0], list(records), 10**60]
