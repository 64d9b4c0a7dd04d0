"""Prices: they certify that no story weighs less, or that there is no story."""

from stockcounts.integers import is_integer
from stockcounts.records import OUTSIDE, id_of, in_sequence, places_in, stretches_before, stretches_of
from stockcounts.records import tells_move, weight_of, with_weight, written
from stockcounts.stories import story_weight


def are_prices(records, value):
    """Return whether any value is prices of the records."""
    numbers = stretches_of(records)
    if not isinstance(value, dict) or len(value) != len(numbers):
        return False
    return all([place in value and _is_row(value[place], numbers[place]) for place in numbers])


def _is_row(value, many):
    """Return whether any value is a list of so many integers."""
    return isinstance(value, list) and len(value) == many and all([is_integer(part) for part in value])


def are_right(records, value, *, shortage, surplus):
    """Return whether any value is right prices, for the records and the two costs."""
    if not are_prices(records, value) or not all([value[place][-1] >= 0 for place in value]):
        return False
    before = stretches_before(records)
    if not all([_allows_staying(record, value, before, shortage) for record in records]):
        return False
    loose = [record for record in records if weight_of(record) is not None]
    return all([_gain(record, value, before, surplus) <= weight_of(record) for record in loose])


def _allows_staying(record, prices, before, shortage):
    """Return whether the prices are right for goods that stay at a move, or are missing at a count."""
    places = places_in(record)
    if tells_move(record):
        return all([_behind(record, prices, before, place) <= _ahead(record, prices, before, place)
                    for place in places])
    return all([_ahead(record, prices, before, place) >= -shortage for place in places])


def _ahead(record, prices, before, place):
    """Return the price of a place before a record."""
    return 0 if place == OUTSIDE else prices[place][before[id_of(record)][place]]


def _behind(record, prices, before, place):
    """Return the price of a place behind a record."""
    return 0 if place == OUTSIDE else prices[place][before[id_of(record)][place] + 1]


def _gain(record, prices, before, surplus):
    if tells_move(record):
        source, target = record[2], record[3]
        return _behind(record, prices, before, target) - _ahead(record, prices, before, source)
    place = record[2]
    return _behind(record, prices, before, place) - min(_ahead(record, prices, before, place), surplus)


def _gains(records, prices, surplus):
    """Return a dict from the ids to the gains."""
    before = stretches_before(records)
    return {id_of(record): _gain(record, prices, before, surplus) for record in records}


def _shares(records, prices, surplus):
    """Return a dict from the ids to the shares."""
    gains = _gains(records, prices, surplus)
    return {id_of(record): _share(record, gains[id_of(record)]) for record in records}


def _share(record, gained):
    weight = weight_of(record)
    if weight is not None and gained < -weight:
        return weight * written(record)
    return -gained * written(record)


def gain(records, prices, ident, *, surplus):
    """Return the gain of a record."""
    return _gains(records, prices, surplus)[ident]


def share(records, prices, ident, *, surplus):
    """Return the share of a record in the bound."""
    return _shares(records, prices, surplus)[ident]


def bound(records, prices, *, surplus):
    """Return the bound of prices: if they are right, no story weighs less."""
    shares = _shares(records, prices, surplus)
    return sum([shares[ident] for ident in shares])


def is_certificate(records, story, value, *, shortage, surplus):
    """Return whether any value is right prices whose bound is the weight of the story."""
    if not are_right(records, value, shortage=shortage, surplus=surplus):
        return False
    return bound(records, value, surplus=surplus) == story_weight(records, story, shortage=shortage, surplus=surplus)


def shows_contradiction(records, value):
    """Return whether any value is prices that show that the records have no story."""
    free = [_freed(record) for record in records]
    return are_right(free, value, shortage=0, surplus=0) and bound(free, value, surplus=0) > 0


def _freed(record):
    """Return the same record, which may be corrected for nothing unless it is sure."""
    return record if weight_of(record) is None else with_weight(record, 0)


def blamed(records, prices):
    """Yield the ids of the sure records whose gain, with the cost of found units 0, is not 0."""
    gains = _gains(records, prices, 0)
    for record in in_sequence(records):
        if weight_of(record) is None and gains[id_of(record)] != 0:
            yield id_of(record)


def surely_right(records, prices, *, surplus):
    """Yield the ids of the records that have, if the bound is reached, the amount written down in all least stories."""
    gains = _gains(records, prices, surplus)
    for record in in_sequence(records):
        weight = weight_of(record)
        if weight is not None and -weight < gains[id_of(record)] < weight:
            yield id_of(record)
