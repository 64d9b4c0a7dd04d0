"""The text of a ledger, from which it can be read again, and its table."""

from stockcounts.errors import BadText, Contradiction
from stockcounts.ledger import Ledger
from stockcounts.ranges import verdicts
from stockcounts.records import are_records, in_sequence, is_cost, written
from stockcounts.words import number_in, record_in, words_for

HEAD = "ledger"


def ledger_text(ledger):
    """Return the text of a ledger."""
    rows = [[HEAD, str(ledger.shortage), str(ledger.surplus)]] + [words_for(record) for record in ledger.records]
    return "\n".join([" ".join(words) for words in rows])


def read_ledger(text):
    """Return the ledger of a text; raise BadText(value) for any value that is not the text of a ledger."""
    if not isinstance(text, str):
        raise BadText(text)
    head, *rows = [line.split(" ") for line in text.split("\n")]
    costs = _costs_in(head)
    records = [record_in(words) for words in rows]
    if costs is None or not _may_stand(records):
        raise BadText(text)
    try:
        return Ledger.made(costs[0], costs[1], records)
    except Contradiction:
        raise BadText(text) from None


def _costs_in(words):
    """Return the two costs that the words of the first line tell, or None if they tell none."""
    if len(words) != 3 or words[0] != HEAD:
        return None
    costs = (number_in(words[1]), number_in(words[2]))
    return costs if is_cost(costs[0]) and is_cost(costs[1]) else None


def _may_stand(values):
    """Return whether the values of the lines are the records of a ledger, unless they contradict each other."""
    return are_records(values) and values == in_sequence(values) and len(values) <= Ledger.LIMIT


def table(ledger):
    """Return the table of a ledger: what was written down, what it was in the best story, and the verdicts."""
    best = ledger.story()
    lines = []
    for ident, _, _, word in verdicts(ledger.records, shortage=ledger.shortage, surplus=ledger.surplus):
        amount = written(ledger.record(ident))
        lines.append(f"{ident:>7} {amount:>8} -> {best[ident]:>8} {word}")
    return "\n".join(lines)
