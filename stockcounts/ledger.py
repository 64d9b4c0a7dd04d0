"""The ledger: records and costs that are changed, and changes that are undone and redone."""

from stockcounts.best import best_story, least_weight
from stockcounts.errors import BadCost, BadNumber, BadRecord, NothingToDo, TakenId, TooMany
from stockcounts.integers import is_within
from stockcounts.ranges import record_range, word_for
from stockcounts.records import id_of, in_sequence, is_cost, is_record, is_weight, record_of, with_weight
from stockcounts.stories import Story


def _check_costs(shortage, surplus):
    """Raise BadCost(value) for the first one that is not a cost."""
    for value in (shortage, surplus):
        if not is_cost(value):
            raise BadCost(value)


def _stage(records, shortage, surplus):
    """Return the records in their sequence, the costs and the least weight; raise Contradiction(prices)."""
    kept = in_sequence(records)
    return (kept, shortage, surplus, least_weight(kept, shortage=shortage, surplus=surplus))


class Ledger:
    """A list of records, which do not contradict each other, and the costs of missing and of found units.

    The stages are what the ledger had at first, and what it had behind each change, those that are undone too.
    """

    LIMIT = 40

    def __init__(self, *, shortage=10, surplus=10):
        _check_costs(shortage, surplus)
        self._begin([], shortage, surplus)

    @classmethod
    def made(cls, shortage, surplus, records):
        """Return the ledger with these parts, with nothing to undo or redo."""
        ledger = cls()
        ledger._begin(records, shortage, surplus)
        return ledger

    def copied(self):
        """Return a ledger with the same parts, with nothing to undo or redo."""
        return Ledger.made(self._shortage, self._surplus, self._records)

    def same(self, other):
        """Return whether another ledger has the same costs and records."""
        if self._records != other.records:
            return False
        return self._shortage == other.shortage and self._surplus == other.surplus

    def _begin(self, records, shortage, surplus):
        self._stages = [_stage(records, shortage, surplus)]
        self._stand_at(0)

    def _stand_at(self, number):
        """Have what the ledger had behind so many changes."""
        self._changes = number
        self._records, self._shortage, self._surplus, self._weight = self._stages[number]

    def _change(self, records, shortage, surplus):
        """Have these parts from now on; raise Contradiction(prices) and change nothing if there is no story."""
        stage = _stage(records, shortage, surplus)
        self._stages = self._stages[:self._changes + 1] + [stage]
        self._stand_at(self._changes + 1)

    # A property must not work out the weight, because the search for a least
    # story changes its network. So every stage brings its weight along.
    @property
    def weight(self):
        """The least weight."""
        return self._weight

    @property
    def records(self):
        """The records, in their sequence."""
        return list(self._records)

    @property
    def shortage(self):
        """The cost of a missing unit."""
        return self._shortage

    @property
    def surplus(self):
        """The cost of a found unit."""
        return self._surplus

    @property
    def changes(self):
        """The number of the changes that were made and not undone."""
        return self._changes

    def add(self, record):
        """Add a record; raise BadRecord(value), TakenId(ident), TooMany(count) or Contradiction(prices)."""
        if not is_record(record):
            raise BadRecord(record)
        if id_of(record) in [id_of(kept) for kept in self._records]:
            raise TakenId(id_of(record))
        records = self._records + [record]
        if len(records) > Ledger.LIMIT:
            raise TooMany(len(records))
        self._change(records, self._shortage, self._surplus)

    def withdraw(self, ident):
        """Withdraw a record; raise UnknownId(ident) or Contradiction(prices)."""
        self.record(ident)
        self._change(self._others(ident), self._shortage, self._surplus)

    def confirm(self, ident):
        """Let a record be sure; raise UnknownId(ident) or Contradiction(prices)."""
        self._give_weight(self.record(ident), None)

    def trust(self, ident, weight):
        """Give a record a weight; raise UnknownId(ident) or BadRecord(value)."""
        record = self.record(ident)
        if weight is None or not is_weight(weight):
            raise BadRecord(weight)
        self._give_weight(record, weight)

    def _give_weight(self, record, weight):
        records = self._others(id_of(record)) + [with_weight(record, weight)]
        self._change(records, self._shortage, self._surplus)

    def _others(self, ident):
        """Return all records but one."""
        return [kept for kept in self._records if id_of(kept) != ident]

    def set_costs(self, shortage, surplus):
        """Change the costs; raise BadCost(value) for the first one that is not a cost."""
        _check_costs(shortage, surplus)
        self._change(self._records, shortage, surplus)

    def undo(self):
        """Take back the last change that was not undone; raise NothingToDo("undo")."""
        if self._changes == 0:
            raise NothingToDo("undo")
        self._stand_at(self._changes - 1)

    def redo(self):
        """Do the last undone change again; raise NothingToDo("redo")."""
        if self._changes + 1 == len(self._stages):
            raise NothingToDo("redo")
        self._stand_at(self._changes + 1)

    def as_of(self, number):
        """Return the ledger as it was behind so many changes; raise BadNumber(value)."""
        if not is_within(number, 0, self._changes):
            raise BadNumber(number)
        records, shortage, surplus, _ = self._stages[number]
        return Ledger.made(shortage, surplus, records)

    def record(self, ident):
        """Return the record of an id; raise UnknownId(ident)."""
        return record_of(self._records, ident)

    def story(self):
        """Return the best story."""
        amounts = best_story(self._records, shortage=self._shortage, surplus=self._surplus)
        return Story(self._records, amounts)

    def range_of(self, ident):
        """Return the least and the greatest amount of a record in least stories; raise UnknownId(ident)."""
        return record_range(self._records, ident, shortage=self._shortage, surplus=self._surplus)

    def verdict(self, ident):
        """Return whether a record is right, wrong or open, as one of these words; raise UnknownId(ident)."""
        least, greatest = self.range_of(ident)
        return word_for(self.record(ident), least, greatest)
