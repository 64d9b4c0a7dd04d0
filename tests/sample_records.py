"""Records for the tests: some written out, and random ones, which are always the same."""

import itertools
import random

PAIR = [(1, 0, '-', 'shelf', 5, 3), (2, 1, 'shelf', 4, 2)]
CHOICE = [(1, 0, '-', 'shelf', 5, 2), (2, 1, 'shelf', 3, 2)]
COSTS = {"shortage": 10, "surplus": 10}

# Goods come in, move on, are lost and found; one move and one count are sure.
MONTH = [
    (11, 0, "-", "shelf", 9, 4),
    (4, 1, "shelf", "van", 3, None),
    (7, 1, "shelf", 4, 5),
    (2, 2, "van", "-", 5, 2),
    (15, 2, "van", 0, 3),
    (3, 4, "shelf", 6, None),
    (9, 4, "shelf", "shop", 2, 1),
    (1, 5, "shop", 1, 6),
]

# What each of these lists asks for cannot be: goods that never came, or that are counted for sure and then taken.
CONTRADICTIONS = [
    [(1, 0, "a", "-", 1, None)],
    [(1, 0, "a", "b", 10**6, None), (2, 1, "b", 3, 4)],
    [(1, 0, "-", "a", 5, None), (2, 1, "a", "b", 6, None)],
    [(1, 0, "-", "a", 5, 1), (2, 1, "a", 4, None), (3, 1, "a", "b", 5, None)],
    [(1, 0, "a", 4, None), (2, 1, "a", "b", 2, 3), (3, 2, "a", "-", 3, None), (4, 2, "a", "-", 2, None)],
    [(1, 0, "-", "a", 3, None), (2, 1, "a", "b", 1, 7), (3, 2, "a", "-", 2, None), (4, 3, "b", "-", 2, None)],
    [(2, 0, "-", "a", 5, None), (1, 0, "a", "-", 5, None)],
]


def orders(records, many=6):
    """The records in some sequences."""
    if len(records) < 4:
        return [list(mixed) for mixed in itertools.permutations(records)]
    chance = random.Random(7)
    return [list(records), records[::-1]] + [chance.sample(records, len(records)) for _ in range(many)]


def small_records(chance, most=5):
    """A few records with small amounts; often there are several least stories, or there is none."""
    ends = chance.choice(["-a", "-ab", "-abc"])
    weights = chance.choice([[1], [1, 2], [5, 3, 2], [1, 2, 3, None], [None, 1], [1000, 1, None]])
    rest, records = chance.randint(0, 9), []
    for ident in chance.sample(range(1, 30), chance.randint(0, most)):
        amount, time = chance.randint(0, min(rest, 4)), chance.randint(0, 3)
        rest -= amount
        if chance.random() < 0.6:
            source, target = chance.sample(ends, 2)
            records.append((ident, time, source, target, amount, chance.choice(weights)))
        else:
            records.append((ident, time, chance.choice(ends[1:]), amount, chance.choice(weights)))
    return records


def small_samples(seed, many, most=5):
    """Pairs of records and costs."""
    chance = random.Random(seed)
    costs = (1, 2, 3, 10, 1000)
    return [(small_records(chance, most), {"shortage": chance.choice(costs), "surplus": chance.choice(costs)})
            for _ in range(many)]


def many_records(seed, many, greatest, sure=0.0):
    """So many records of a few places, with amounts up to the greatest one."""
    chance = random.Random(seed)
    places, records = ["hall", "shelf", "shop", "van"], []
    for ident in chance.sample(range(1, 10**6 + 1), many):
        amount, time = chance.choice([0, greatest, chance.randint(0, greatest)]), chance.randint(0, many)
        weight = None if chance.random() < sure else chance.randint(1, 1000)
        if chance.random() < 0.6:
            source, target = chance.sample(places + ["-"], 2)
            records.append((ident, time, source, target, amount, weight))
        else:
            records.append((ident, time, chance.choice(places), amount, weight))
    return records
