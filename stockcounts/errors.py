"""The errors that the program raises.

Each error keeps the very value that it was made with. Its message does not
show the value, because any value may be too long to be written out.
"""


class StockError(ValueError):
    """Any error of this program."""


class BadRecord(StockError):
    """A value is not a record, or not a weight for one."""

    def __init__(self, value):
        super().__init__("this is not a right record")
        self.value = value


class BadCost(StockError):
    """A value is not a cost."""

    def __init__(self, value):
        super().__init__("this is not a cost")
        self.value = value


class BadText(StockError):
    """A value is not the text of a ledger."""

    def __init__(self, value):
        super().__init__("this is not the text of a ledger")
        self.value = value


class BadCommand(StockError):
    """A value is not a command of the console."""

    def __init__(self, command):
        super().__init__("this is not a command")
        self.command = command


class UnknownId(StockError):
    """No record has this id."""

    def __init__(self, ident):
        super().__init__("no record has this id")
        self.ident = ident


class TakenId(StockError):
    """Another record has this id."""

    def __init__(self, ident):
        super().__init__("another record has this id")
        self.ident = ident


class UnknownPlace(StockError):
    """No record names this place."""

    def __init__(self, place):
        super().__init__("no record names this place")
        self.place = place


class BadNumber(StockError):
    """A value is not a number of changes."""

    def __init__(self, value):
        super().__init__("this is not a number of changes")
        self.value = value


class TooMany(StockError):
    """There would be more records than a ledger takes."""

    def __init__(self, count):
        super().__init__("there would be too many records")
        self.count = count


class Contradiction(StockError):
    """The records have no story; the prices show it."""

    def __init__(self, prices):
        super().__init__("the records contradict each other")
        self.prices = prices


class NothingToDo(StockError):
    """There is nothing to undo or redo."""

    def __init__(self, action):
        super().__init__("there is nothing to undo or redo")
        self.action = action
