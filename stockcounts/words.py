"""Words: how integers and records are written in texts and commands."""

from stockcounts.records import is_record, tells_move, weight_of

SURE = "sure"
MOST_DIGITS = 60

# How many words tell a record, the first one included.
WORDS_OF_RECORD = {"move": 7, "count": 6}


def number_in(word):
    """Return the integer that a word is, or None if it is none."""
    if not 1 <= len(word) <= MOST_DIGITS or not all(["0" <= sign <= "9" for sign in word]):
        return None
    return None if word[0] == "0" and word != "0" else int(word)


def tells_record(words):
    """Return whether the first one of some words is that of a record."""
    return words[0] in WORDS_OF_RECORD


def record_in(words):
    """Return the record that some words tell, or None if they tell no right one."""
    if not tells_record(words) or len(words) != WORDS_OF_RECORD[words[0]]:
        return None
    ident, time, amount = number_in(words[1]), number_in(words[2]), number_in(words[-2])
    weight = number_in(words[-1])
    # None as the weight of a record means that it is sure, not that the word is no integer.
    if weight is None and words[-1] != SURE:
        return None
    record = (ident, time, *words[3:-2], amount, weight)
    return record if is_record(record) else None


def words_for(record):
    """Return the words that tell a record, as a list."""
    kind = "move" if tells_move(record) else "count"
    weight = SURE if weight_of(record) is None else weight_of(record)
    return [kind] + [str(part) for part in (*record[:-1], weight)]
