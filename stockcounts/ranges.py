"""Ranges: the amounts that records have, and the gaps that counts have, in least stories."""

from stockcounts.best import best_prices
from stockcounts.errors import Contradiction, UnknownId
from stockcounts.least import LeastStories
from stockcounts.records import id_of, in_sequence, record_of, tells_move, with_amount, with_weight, written

RIGHT = "right"
WRONG = "wrong"
OPEN = "open"


def record_range(records, ident, *, shortage, surplus):
    """Return the least and the greatest amount that a record has in least stories."""
    record_of(records, ident)
    return _range_in(LeastStories(records, shortage, surplus), ident)


def _range_in(stories, ident):
    return (stories.lowest_amount(ident), stories.highest_amount(ident))


def verdict(records, ident, *, shortage, surplus):
    """Return whether a record is right, wrong or open, as one of these words."""
    record = record_of(records, ident)
    least, greatest = record_range(records, ident, shortage=shortage, surplus=surplus)
    return word_for(record, least, greatest)


def word_for(record, least, greatest):
    """Return whether a record with this range is right, wrong or open, as one of these words."""
    if least == written(record) == greatest:
        return RIGHT
    return OPEN if least <= written(record) <= greatest else WRONG


def verdicts(records, *, shortage, surplus):
    """Yield (id, least, greatest, verdict) for every record, in the sequence of the records."""
    stories = LeastStories(records, shortage, surplus)
    for record in in_sequence(records):
        least, greatest = _range_in(stories, id_of(record))
        yield (id_of(record), least, greatest, word_for(record, least, greatest))


def story_with(records, ident, amount, *, shortage, surplus):
    """Return a least story in which a record has an amount, or None if there is none."""
    record_of(records, ident)
    stories = LeastStories(records, shortage, surplus)
    lack = amount - stories.amount(ident)
    if lack > 0:
        stories.raise_amount(ident, lack)
    else:
        stories.lower_amount(ident, -lack)
    return stories.story() if stories.amount(ident) == amount else None


def gap_range(records, ident, *, shortage, surplus):
    """Return the least and the greatest gap that a count has in least stories."""
    if tells_move(record_of(records, ident)):
        raise UnknownId(ident)
    stories = LeastStories(records, shortage, surplus)
    return (stories.lowest_gap(ident), stories.highest_gap(ident))


def bars(records, ident, amount, *, shortage, surplus):
    """Return prices which show that a record has not this amount in any least story, or None if it has it in one."""
    if story_with(records, ident, amount, shortage=shortage, surplus=surplus) is not None:
        return None
    sure = with_weight(with_amount(record_of(records, ident), amount), None)
    others = [record for record in records if id_of(record) != ident]
    try:
        return best_prices([sure] + others, shortage=shortage, surplus=surplus)
    except Contradiction as contradiction:
        return contradiction.prices
