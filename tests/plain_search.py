"""Stories and prices by going through the document word by word, for a few small records.

Nothing of the program is used here, so that the tests do not ask the program about itself.
"""


def in_order(records):
    return sorted(records, key=lambda record: (record[1], record[0]))


def is_move(record):
    return len(record) == 6


def places_of(record):
    return [end for end in (record[2:4] if is_move(record) else record[2:3]) if end != "-"]


class Search:
    """All least stories, found by trying every amount up to that of all records together.

    No record has more than that in a least story: what it has beyond its own written amount
    must spare the correction of something that is written down in another record.
    """

    def __init__(self, records, shortage, surplus):
        self.records = in_order(records)
        self.shortage, self.surplus = shortage, surplus
        self.most = sum(record[-2] for record in records)
        self.weight, self.lists, self.gaps = None, [], []
        places = {place for record in records for place in places_of(record)}
        self.go_on([], [], dict.fromkeys(places, 0), 0)
        self.stories = [self.named(amounts) for amounts in self.lists]

    def named(self, amounts):
        return {record[0]: amount for record, amount in zip(self.records, amounts)}

    def go_on(self, amounts, gaps, levels, weight):
        if self.weight is not None and weight > self.weight:
            return
        if len(amounts) == len(self.records):
            self.keep(amounts, gaps, weight)
            return
        record = self.records[len(amounts)]
        tried = range(self.most + 1) if record[-1] is not None else [record[-2]]
        for amount in tried:
            after, gap = self.behind(record, amount, levels)
            if min(after.values(), default=0) >= 0:
                more = abs(amount - record[-2]) * (record[-1] or 0)
                if gap is not None:
                    more += gap * self.surplus if gap > 0 else -gap * self.shortage
                self.go_on(amounts + [amount], gaps + [gap], after, weight + more)

    def behind(self, record, amount, levels):
        after = dict(levels)
        if not is_move(record):
            after[record[2]] = amount
            return after, amount - levels[record[2]]
        if record[2] != "-":
            after[record[2]] -= amount
        if record[3] != "-":
            after[record[3]] += amount
        return after, None

    def keep(self, amounts, gaps, weight):
        if self.weight is None or weight < self.weight:
            self.weight, self.lists, self.gaps = weight, [], []
        self.lists.append(amounts)
        self.gaps.append(gaps)

    def best(self):
        return self.named(min(self.lists))

    def amounts_of(self, ident):
        return sorted({story[ident] for story in self.stories})

    def gaps_of(self, ident):
        at = [record[0] for record in self.records].index(ident)
        return sorted({gaps[at] for gaps in self.gaps})


def ends_of_stretches(records, prices):
    """For each record the prices before it and behind it at its places, and 0 for outside."""
    at, ends = {place: 0 for record in records for place in places_of(record)}, {}
    for record in in_order(records):
        before, behind = {"-": 0}, {"-": 0}
        for place in places_of(record):
            before[place], behind[place] = prices[place][at[place]], prices[place][at[place] + 1]
            at[place] += 1
        ends[record[0]] = before, behind
    return ends


def plain_gain(record, ends, surplus):
    before, behind = ends[record[0]]
    if is_move(record):
        return behind[record[3]] - before[record[2]]
    return behind[record[2]] - min(before[record[2]], surplus)


def plainly_right(records, prices, shortage, surplus):
    """Whether prices of the records are right, by the five points of [9]."""
    ends = ends_of_stretches(records, prices)
    for record in records:
        before, behind = ends[record[0]]
        if is_move(record):
            if any(behind[place] > before[place] for place in places_of(record)):
                return False
        elif before[record[2]] < -shortage:
            return False
        if record[-1] is not None and plain_gain(record, ends, surplus) > record[-1]:
            return False
    return all(row[-1] >= 0 for row in prices.values())


def plain_share(record, ends, surplus):
    gain, amount, weight = plain_gain(record, ends, surplus), record[-2], record[-1]
    return weight * amount if weight is not None and gain < -weight else -gain * amount


def plain_bound(records, prices, surplus):
    ends = ends_of_stretches(records, prices)
    return sum(plain_share(record, ends, surplus) for record in records)


def plainly_contradicts(records, prices):
    free = [record if record[-1] is None else record[:-1] + (0,) for record in records]
    return plainly_right(free, prices, 0, 0) and plain_bound(free, prices, 0) > 0
