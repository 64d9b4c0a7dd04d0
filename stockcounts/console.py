"""The console: it executes commands on a ledger, one per call."""

from stockcounts.errors import BadCommand, UnknownPlace
from stockcounts.ledger import Ledger
from stockcounts.records import id_of, is_cost, is_place, is_weight
from stockcounts.stories import gaps
from stockcounts.texts import ledger_text, table
from stockcounts.words import number_in, record_in, tells_record

NOTHING = "none"

# What each word behind the first one is. All words of "move" and "count" tell a record together.
FORMS = {
    "new": ("cost", "cost"),
    "withdraw": ("ident",),
    "confirm": ("ident",),
    "trust": ("ident", "weight"),
    "undo": (),
    "redo": (),
    "story": (),
    "range": ("ident",),
    "stock": ("place",),
    "gaps": (),
    "table": (),
    "save": (),
}


def _values_in(words):
    """Return the values that the words of a command tell, as a list, or None if the words are no command."""
    if tells_record(words):
        values = [record_in(words)]
    else:
        forms = FORMS.get(words[0])
        if forms is None or len(forms) != len(words) - 1:
            return None
        values = [_value_in(word, form) for word, form in zip(words[1:], forms)]
    return None if None in values else values


def _value_in(word, form):
    """Return the value that a word tells, or None if it is nothing of this form."""
    if form == "place":
        return word if is_place(word) else None
    number = number_in(word)
    if form == "cost":
        return number if is_cost(number) else None
    if form == "weight":
        return number if is_weight(number) else None
    return number


def _add(ledger, record):
    ledger.add(record)


def _withdraw(ledger, ident):
    ledger.withdraw(ident)


def _confirm(ledger, ident):
    ledger.confirm(ident)


def _trust(ledger, ident, weight):
    ledger.trust(ident, weight)


def _undo(ledger):
    ledger.undo()


def _redo(ledger):
    ledger.redo()


def _told_story(ledger):
    best = ledger.story()
    idents = [id_of(record) for record in ledger.records]
    return " ".join([f"{ident}={best[ident]}" for ident in idents]) or NOTHING


def _told_range(ledger, ident):
    least, greatest = ledger.range_of(ident)
    return f"{least}..{greatest} {ledger.verdict(ident)}"


def _told_stock(ledger, place):
    levels = ledger.story().stocks
    if place not in levels:
        raise UnknownPlace(place)
    return " ".join([str(level) for level in levels[place]])


def _told_gaps(ledger):
    amounts = ledger.story().amounts
    return " ".join([f"{ident}:{gap}" for ident, gap in gaps(ledger.records, amounts)]) or NOTHING


def _told_table(ledger):
    return table(ledger)


def _told_text(ledger):
    return ledger_text(ledger)


CHANGES = {
    "move": _add,
    "count": _add,
    "withdraw": _withdraw,
    "confirm": _confirm,
    "trust": _trust,
    "undo": _undo,
    "redo": _redo,
}

QUESTIONS = {
    "story": _told_story,
    "range": _told_range,
    "stock": _told_stock,
    "gaps": _told_gaps,
    "table": _told_table,
    "save": _told_text,
}


class Console:
    """A ledger and the commands that change it and ask it."""

    def __init__(self):
        self._ledger = Ledger()

    def __call__(self, command):
        """Execute a command and return its answer; raise BadCommand(command) for any value that is none.

        Raise UnknownPlace(place), and the errors of the ledger.
        """
        if not isinstance(command, str):
            raise BadCommand(command)
        words = command.split(" ")
        values = _values_in(words)
        if values is None:
            raise BadCommand(command)
        return self._executed(words[0], values)

    def _executed(self, word, values):
        if word in QUESTIONS:
            answer = QUESTIONS[word]
            return answer(self._ledger, *values)
        if word == "new":
            shortage, surplus = values
            self._ledger = Ledger(shortage=shortage, surplus=surplus)
        else:
            change = CHANGES[word]
            change(self._ledger, *values)
        return f"ok {self._ledger.weight}"
