"""Ledgers for the tests, all that they tell, and what they can undo and redo."""

from stockcounts.best import best_story, least_weight
from stockcounts.compare import doubtful
from stockcounts.errors import NothingToDo
from stockcounts.ledger import Ledger
from stockcounts.ranges import record_range, verdict
from stockcounts.stories import stocks
from stockcounts.texts import ledger_text, table

# The second record is sure and takes what the first one brings: without that, or with less, there is no story.
HELD = [(1, 0, "-", "a", 2, 2), (2, 1, "a", "b", 3, None), (3, 2, "b", 3, 4)]

# As many records as a ledger takes; goods only come in, so any of them may be withdrawn.
FULL = [(ident, ident % 7, "-", "abcd"[ident % 4], ident % 5, 1 + ident % 3) for ident in range(1, 41)]


def filled(records, shortage=10, surplus=10):
    """A ledger to which records were added one after another."""
    ledger = Ledger(shortage=shortage, surplus=surplus)
    for record in records:
        ledger.add(record)
    return ledger


def in_order(records):
    return sorted(records, key=lambda record: (record[1], record[0]))


def plain_line(record):
    kind = "move" if len(record) == 6 else "count"
    return " ".join([kind] + ["sure" if part is None else str(part) for part in record])


def plain_text(records, shortage=10, surplus=10):
    """The text of a ledger, written by the words of the document."""
    return "\n".join([f"ledger {shortage} {surplus}"] + [plain_line(record) for record in in_order(records)])


def answers(ledger):
    """All that a ledger answers but for its changes, and what is told of it."""
    ids = [record[0] for record in ledger.records]
    story = ledger.story()
    return {
        "records": ledger.records,
        "costs": (ledger.shortage, ledger.surplus),
        "weight": (ledger.weight, story.total(ledger.shortage, ledger.surplus)),
        "amounts": story.amounts,
        "stocks": story.stocks,
        "each": [(ledger.record(ident), ledger.range_of(ident), ledger.verdict(ident)) for ident in ids],
        "doubtful": list(doubtful(ledger)),
        "text": ledger_text(ledger),
        "table": table(ledger),
    }


def plain_answers(records, shortage=10, surplus=10):
    """The same, from the functions over records, and from the words of the document."""
    costs = {"shortage": shortage, "surplus": surplus}
    rows, best = in_order(records), best_story(records, **costs)
    words = {record[0]: verdict(records, record[0], **costs) for record in records}
    lines = [str(row[0]).rjust(7) + " " + str(row[-2]).rjust(8) + " -> " + str(best[row[0]]).rjust(8) + " "
             + words[row[0]] for row in rows]
    return {
        "records": rows,
        "costs": (shortage, surplus),
        "weight": (least_weight(records, **costs),) * 2,
        "amounts": best,
        "stocks": stocks(records, best),
        "each": [(row, record_range(records, row[0], **costs), words[row[0]]) for row in rows],
        "doubtful": [row[0] for row in rows if words[row[0]] != "right"],
        "text": plain_text(records, shortage, surplus),
        "table": "\n".join(lines),
    }


def parts(ledger):
    return (ledger.records, ledger.shortage, ledger.surplus, ledger.weight, ledger.changes)


def steps_until_refused(ledger, step):
    """What a ledger has behind each undo, or each redo, until it refuses."""
    found = []
    while True:
        try:
            step()
        except NothingToDo:
            return found
        found.append(parts(ledger))


def history(ledger):
    """What a ledger has and had, and will have again by redo; it is left as it was."""
    now = parts(ledger)
    ahead = steps_until_refused(ledger, ledger.redo)
    for _ in ahead:
        ledger.undo()
    behind = steps_until_refused(ledger, ledger.undo)
    for _ in behind:
        ledger.redo()
    assert parts(ledger) == now
    return behind[::-1] + [now] + ahead, len(behind)


def with_history(records=HELD):
    """A ledger that has something to undo and something to redo."""
    ledger = filled(records)
    ledger.set_costs(7, 9)
    ledger.trust(records[0][0], 5)
    ledger.set_costs(3, 4)
    ledger.undo()
    ledger.undo()
    return ledger
