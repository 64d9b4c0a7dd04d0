"""Stories: what each move and each count really was."""

from stockcounts.errors import UnknownId
from stockcounts.integers import is_integer
from stockcounts.records import id_of, in_sequence, places_in, places_of, stretches_before
from stockcounts.records import tells_move, weight_of, written


def is_story(records, value):
    """Return whether any value is a story of the records."""
    if not isinstance(value, dict) or not _has_their_ids(records, value):
        return False
    if not all([is_integer(value[ident]) and value[ident] >= 0 for ident in value]):
        return False
    return _keeps_sure_amounts(records, value) and _never_takes_too_much(records, value)


def _has_their_ids(records, value):
    """Return whether the keys of a dict are exactly the ids of the records."""
    # True is found in a dict under 1, so the keys themselves are asked what they are.
    if len(value) != len(records) or not all([is_integer(key) for key in value]):
        return False
    return all([id_of(record) in value for record in records])


def _keeps_sure_amounts(records, amounts):
    sure = [record for record in records if weight_of(record) is None]
    return all([amounts[id_of(record)] == written(record) for record in sure])


def _never_takes_too_much(records, amounts):
    # A move takes too much exactly if it leaves less than nothing behind at its source.
    levels = stocks(records, amounts)
    return all([level >= 0 for place in levels for level in levels[place]])


def stocks(records, story):
    """Return a dict from the places to the lists of their amounts in their stretches."""
    levels = {}
    for place in places_of(records):
        levels[place] = [0]
    for record in in_sequence(records):
        for place in places_in(record):
            level = levels[place][-1]
            levels[place].append(_level_behind(record, place, level, story[id_of(record)]))
    return levels


def _level_behind(record, place, level, amount):
    """Return what a place has behind a record, if it had the level before."""
    if not tells_move(record):
        return amount
    source = record[2]
    return level - amount if place == source else level + amount


def gaps(records, story):
    """Yield (id, gap) for every count, in the sequence of the records."""
    levels = stocks(records, story)
    before = stretches_before(records)
    for record in in_sequence(records):
        if not tells_move(record):
            ident, place = id_of(record), record[2]
            at = before[ident][place]
            yield (ident, levels[place][at + 1] - levels[place][at])


def mistakes(records, story):
    """Yield (id, amount written down, amount in the story) for every record that is corrected."""
    # The caller may change the story between two of the rows.
    amounts = dict(story)
    for record in in_sequence(records):
        amount = amounts[id_of(record)]
        if amount != written(record):
            yield (id_of(record), written(record), amount)


def story_weight(records, story, *, shortage, surplus):
    """Return the weight of a story, with the costs of a missing and of a found unit."""
    total = 0
    for record in records:
        if weight_of(record) is not None:
            total += abs(story[id_of(record)] - written(record)) * weight_of(record)
    for _, gap in gaps(records, story):
        total += gap * surplus if gap > 0 else -gap * shortage
    return total


class Story:
    """A story together with its records."""

    def __init__(self, records, amounts):
        self._records = in_sequence(records)
        self._amounts = dict(amounts)

    @property
    def amounts(self):
        """The amounts, as a dict from the ids."""
        return dict(self._amounts)

    @property
    def stocks(self):
        """The stocks, as the function of that name returns them."""
        return stocks(self._records, self._amounts)

    def __contains__(self, value):
        return is_integer(value) and value in self._amounts

    def __len__(self):
        return len(self._records)

    def __getitem__(self, ident):
        if ident not in self:
            raise UnknownId(ident)
        return self._amounts[ident]

    # Without this, Python would iterate by asking for the ids 0, 1 and so on.
    def __iter__(self):
        raise TypeError("a story is not iterated over")

    def total(self, shortage, surplus):
        """Return the weight of the story."""
        return story_weight(self._records, self._amounts, shortage=shortage, surplus=surplus)
