"""Values of every kind that the document calls "any value"."""


def nested(depth, kind):
    """A value of one kind, nested so deep."""
    value = 1
    for _ in range(depth):
        value = {"list": [value], "tuple": (value,), "dict": {1: value}}[kind]
    return value


def any_values():
    """Values that are neither places, weights, records, lists of records nor ids."""
    deep = [nested(depth, kind) for depth in (1, 2, 30) for kind in ("list", "tuple", "dict")]
    return deep + [
        True, False, -1, -10**60, 10**60, 10**400,
        "", " ", "-", "--", "~", "\n", "a b", "A", "shelf\n", "overlongname",
        (), (None,), ((), ()), (True, 1), [None], [[]], ["shelf"], {}, {None: None},
        {"a": [1, (2, {3: "x"})]}, {(1, (2, 3)): []}, {True: False}, {-1: -1},
    ]
