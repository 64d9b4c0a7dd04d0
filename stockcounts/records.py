"""Records: moves of goods between places, and counts at places."""

from stockcounts.errors import UnknownId
from stockcounts.integers import is_integer, is_within

OUTSIDE = "-"
LONGEST_PLACE = 8
GREATEST_PART = 1000000
GREATEST_WEIGHT = 1000
GREATEST_COST = 1000
PARTS_OF_MOVE = 6
PARTS_OF_COUNT = 5


def is_place(value):
    """Return whether any value is a place."""
    if not isinstance(value, str):
        return False
    return 1 <= len(value) <= LONGEST_PLACE and all(["a" <= sign <= "z" for sign in value])


def is_weight(value):
    """Return whether any value is a weight; None is the weight of a sure record."""
    return value is None or is_within(value, 1, GREATEST_WEIGHT)


def is_cost(value):
    """Return whether any value is a cost of missing or of found units."""
    return is_within(value, 1, GREATEST_COST)


def is_move(value):
    """Return whether any value is a move."""
    if not _has_parts(value, PARTS_OF_MOVE):
        return False
    source, target = value[2], value[3]
    return _is_end(source) and _is_end(target) and source != target


def is_count(value):
    """Return whether any value is a count."""
    return _has_parts(value, PARTS_OF_COUNT) and is_place(value[2])


def is_record(value):
    """Return whether any value is a record."""
    return is_move(value) or is_count(value)


def are_records(value):
    """Return whether any value is a right list of records."""
    if not isinstance(value, list) or not all([is_record(part) for part in value]):
        return False
    return len({id_of(record) for record in value}) == len(value)


def _has_parts(value, many):
    """Return whether a value is a tuple of so many parts, with right id, time, amount and weight."""
    if not isinstance(value, tuple) or len(value) != many:
        return False
    if not is_within(value[0], 1, GREATEST_PART) or not is_within(value[1], 0, GREATEST_PART):
        return False
    return is_within(written(value), 0, GREATEST_PART) and is_weight(weight_of(value))


def _is_end(value):
    """Return whether any value may be the source or the target of a move."""
    return value == OUTSIDE or is_place(value)


def id_of(record):
    """Return the id of a record."""
    return record[0]


def written(record):
    """Return the amount that was written down."""
    return record[-2]


def weight_of(record):
    """Return the weight of a record."""
    return record[-1]


def with_weight(record, weight):
    """Return the same record with another weight."""
    return (*record[:-1], weight)


def with_amount(record, amount):
    """Return the same record with another amount written down."""
    return (*record[:-2], amount, weight_of(record))


# This asks for the number of parts alone, because records that show a
# contradiction may have the weight 0, with which is_move would refuse them.
def tells_move(record):
    """Return whether a record is a move."""
    return len(record) == PARTS_OF_MOVE


def record_of(records, ident):
    """Return the record of an id; raise UnknownId(ident) for any value that is not the id of one."""
    # True equals 1, so the value itself is asked what it is.
    if is_integer(ident):
        for record in records:
            if id_of(record) == ident:
                return record
    raise UnknownId(ident)


def places_in(record):
    """Return the places of one record, of a move the source first."""
    return [end for end in record[2:-2] if end != OUTSIDE]


def in_sequence(records):
    """Return the records in their sequence."""
    return sorted(records, key=_time_and_id)


def _time_and_id(record):
    return (record[1], record[0])


def places_of(records):
    """Return the places that occur, ascending."""
    return sorted({place for record in records for place in places_in(record)})


def stretches_of(records):
    """Return a dict from the places that occur to the numbers of their stretches."""
    numbers = {place: 1 for place in places_of(records)}
    for record in records:
        for place in places_in(record):
            numbers[place] += 1
    return numbers


def stretches_before(records):
    """Return a dict from the ids to dicts from each place of the record to the stretch that ends there."""
    current = {place: 0 for place in places_of(records)}
    before = {}
    for record in in_sequence(records):
        before[id_of(record)] = {place: current[place] for place in places_in(record)}
        for place in places_in(record):
            current[place] += 1
    return before
