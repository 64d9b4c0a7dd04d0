"""Comparing ledgers, and what a ledger would be behind a change that is not made."""

from stockcounts.errors import Contradiction, TakenId, TooMany
from stockcounts.ledger import Ledger
from stockcounts.ranges import RIGHT, verdicts
from stockcounts.records import id_of


def changed_amounts(first, second):
    """Return the list of (id, amount in the first, amount in the second) for records that differ, by ids."""
    before = first.story().amounts
    after = second.story().amounts
    changed = [ident for ident in before if ident in after and before[ident] != after[ident]]
    return [(ident, before[ident], after[ident]) for ident in sorted(changed)]


def if_added(ledger, record):
    """Return the weight that a ledger would have with one more record, or None for a contradiction."""
    return _weight_behind(ledger, lambda trial: trial.add(record))


def if_withdrawn(ledger, ident):
    """Return the weight that a ledger would have without a record, or None for a contradiction."""
    return _weight_behind(ledger, lambda trial: trial.withdraw(ident))


def if_confirmed(ledger, ident):
    """Return the weight that a ledger would have if a record were sure, or None for a contradiction."""
    return _weight_behind(ledger, lambda trial: trial.confirm(ident))


def _weight_behind(ledger, change):
    """Return the weight that a copy of a ledger has behind a change, or None for a contradiction."""
    trial = ledger.copied()
    try:
        change(trial)
    except Contradiction:
        return None
    return trial.weight


def doubtful(ledger):
    """Yield the ids of the records that are wrong or open, in the sequence of the records."""
    for ident, _, _, word in verdicts(ledger.records, shortage=ledger.shortage, surplus=ledger.surplus):
        if word != RIGHT:
            yield ident


def joined(first, second):
    """Return a new ledger with the first one's costs and the records of both.

    Raise TakenId(ident) with the least id that both have, TooMany(count) or Contradiction(prices).
    """
    held = [id_of(record) for record in first.records]
    taken = sorted([id_of(record) for record in second.records if id_of(record) in held])
    if taken:
        raise TakenId(taken[0])
    records = first.records + second.records
    if len(records) > Ledger.LIMIT:
        raise TooMany(len(records))
    return Ledger.made(first.shortage, first.surplus, records)
