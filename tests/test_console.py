"""The console: its commands, what each returns, and what is no command."""

import random
import unittest

from plain_search import Search, plainly_contradicts
from plain_texts import NO_NUMBERS, NO_PLACES, NUMBERS, OTHER_VALUES
from sample_ledgers import FULL, HELD, in_order, plain_answers, plain_line, plain_text
from sample_records import CHOICE, MONTH, PAIR, orders
from sample_values import any_values
from stockcounts import console as module
from stockcounts.best import best_story
from stockcounts.console import Console
from stockcounts.errors import (
    BadCommand, Contradiction, NothingToDo, StockError, TakenId, TooMany, UnknownId, UnknownPlace)
from stockcounts.stories import gaps

QUESTIONS = ["story", "gaps", "table", "save"]


def told(records, shortage=10, surplus=10):
    """A console with these records and costs."""
    console = Console()
    console(f"new {shortage} {surplus}")
    for record in records:
        console(plain_line(record))
    return console


def state(console):
    """What a console has and had, and will have again by redo; it is left as it was."""
    now = [console(word) for word in QUESTIONS]
    stages = []
    for action, other in (("undo", "redo"), ("redo", "undo")):
        found = []
        while True:
            try:
                console(action)
            except NothingToDo:
                break
            found.append(console("save"))
        for _ in found:
            console(other)
        stages.append(found)
    assert [console(word) for word in QUESTIONS] == now
    return now, stages


class ConsoleCase(unittest.TestCase):

    def refused(self, console, command, kind, attribute, value):
        kept = state(console)
        with self.assertRaises(kind) as caught:
            console(command)
        self.assertIs(type(caught.exception), kind)
        self.assertIsInstance(caught.exception, StockError)
        self.assertEqual(getattr(caught.exception, attribute), value)
        self.assertIs(type(getattr(caught.exception, attribute)), type(value))
        self.assertEqual(state(console), kept)

    def bad(self, console, command):
        with self.assertRaises(BadCommand) as caught:
            console(command)
        self.assertIs(caught.exception.command, command)
        self.assertIsInstance(caught.exception, StockError)

    def has(self, console, records, shortage=10, surplus=10):
        """All questions are answered as the functions over records answer them."""
        expected = plain_answers(records, shortage, surplus)
        best = expected["amounts"]
        rows = in_order(records)
        self.assertEqual(console("save"), expected["text"])
        self.assertEqual(console("table"), expected["table"])
        self.assertEqual(console("story"), " ".join(f"{row[0]}={best[row[0]]}" for row in rows) or "none")
        found = " ".join(f"{ident}:{gap}" for ident, gap in gaps(records, best))
        self.assertEqual(console("gaps"), found or "none")
        for row, (least, greatest), word in expected["each"]:
            self.assertEqual(console(f"range {row[0]}"), f"{least}..{greatest} {word}")
        for place, levels in expected["stocks"].items():
            self.assertEqual(console(f"stock {place}"), " ".join(str(level) for level in levels))


class CommandsTest(ConsoleCase):

    def test_examples(self):
        console = Console()
        self.assertEqual(console('move 1 0 - shelf 5 3'), 'ok 0')
        self.assertEqual(console('count 2 1 shelf 4 sure'), 'ok 3')

    def test_each_stands_in_its_file(self):
        self.assertEqual(Console.__module__, "stockcounts.console")
        self.assertIn("__call__", vars(Console))
        self.assertIs(callable(Console()), True)

    def test_without_records(self):
        for console in (Console(), told([]), told([], 1, 1000)):
            self.assertEqual([console(word) for word in ("story", "gaps", "table")], ["none", "none", ""])
        self.assertEqual([Console()("save"), told([], 1, 1000)("save")], ["ledger 10 10", "ledger 1 1000"])
        console = Console()
        self.refused(console, "undo", NothingToDo, "action", "undo")
        self.refused(console, "redo", NothingToDo, "action", "redo")
        self.refused(console, "stock shelf", UnknownPlace, "place", "shelf")
        for command in ("range 1", "withdraw 1", "confirm 1", "trust 1 5"):
            self.refused(console, command, UnknownId, "ident", 1)

    def test_new(self):
        console = told(HELD)
        self.assertEqual(console("new 3 1000"), "ok 0")
        self.has(console, [], 3, 1000)
        self.refused(console, "undo", NothingToDo, "action", "undo")
        self.refused(console, "redo", NothingToDo, "action", "redo")
        for shortage, surplus in ((1, 1), (1000, 1000), (1, 1000)):
            self.assertEqual(console(f"new {shortage} {surplus}"), "ok 0")
            self.has(console, [], shortage, surplus)

    def test_move_and_count(self):
        console = Console()
        self.assertEqual(console("move 1 0 - shelf 5 3"), "ok 0")
        self.assertEqual(console("count 2 1 shelf 4 2"), "ok 2")
        self.assertEqual(console("move 3 1 shelf van 4 sure"), "ok 2")
        self.assertEqual(console("count 4 2 shelf 1 sure"), "ok 2")
        self.assertEqual(console("move 5 0 van - 1 1"), "ok 3")
        records = [*PAIR, (3, 1, "shelf", "van", 4, None), (4, 2, "shelf", 1, None), (5, 0, "van", "-", 1, 1)]
        self.has(console, records)

    def test_bounds(self):
        console = Console()
        self.assertEqual(console("move 1000000 1000000 - abcdefgh 1000000 1000"), "ok 0")
        self.assertEqual(console("count 1 0 z 0 1"), "ok 0")
        self.has(console, [(10**6, 10**6, "-", "abcdefgh", 10**6, 1000), (1, 0, "z", 0, 1)])

    def test_changes(self):
        console = told(PAIR)
        self.assertEqual([console("confirm 2"), console("trust 2 1"), console("trust 2 1000"), console("withdraw 1")],
                         ["ok 3", "ok 1", "ok 3", "ok 40"])
        self.assertEqual([console("undo"), console("undo"), console("undo"), console("undo"), console("undo")],
                         ["ok 3", "ok 1", "ok 3", "ok 2", "ok 0"])
        self.assertEqual([console("redo"), console("redo")], ["ok 2", "ok 3"])
        self.has(console, [PAIR[0], (2, 1, "shelf", 4, None)])

    def test_questions(self):
        for costs in ((10, 10), (2, 2), (1, 1000), (1000, 1)):
            self.has(told(MONTH, *costs), MONTH, *costs)
        console = told(MONTH, 2, 2)
        self.assertEqual(console("story"), "11=9 4=3 7=4 2=3 15=0 3=6 9=1 1=1")
        self.assertEqual(console("gaps"), "7:-2 15:0 3:2 1:0")
        self.assertEqual([console("stock shelf"), console("stock shop")], ["0 9 6 4 6 5", "0 1 1"])
        console = told(CHOICE)
        self.assertEqual([console("range 1"), console("range 2")], ["3..5 open", "3..5 open"])
        self.assertEqual(told(CHOICE[:1])("gaps"), "none")

    def test_questions_change_nothing(self):
        console = told(MONTH)
        console("undo")
        kept = state(console)
        for command in [*QUESTIONS, "range 11", "stock shelf"]:
            console(command)
            self.assertEqual(state(console), kept)
        self.assertEqual(console("redo").split(" ")[0], "ok")

    def test_table_of_several_lines(self):
        self.assertEqual(told(PAIR)("table"), "      1        5 ->        5 right\n      2        4 ->        5 wrong")

    def test_consoles_share_nothing(self):
        first, second = Console(), Console()
        first("new 3 4")
        first("move 1 0 - shelf 5 3")
        self.has(second, [])
        second("count 1 0 van 2 1")
        self.has(first, PAIR[:1], 3, 4)
        self.has(second, [(1, 0, "van", 2, 1)])
        first("undo")
        self.has(second, [(1, 0, "van", 2, 1)])
        self.assertEqual(Console()("save"), "ledger 10 10")

    def test_by_name(self):
        console = Console()
        self.assertEqual(console(command="move 1 0 - shelf 5 3"), "ok 0")
        with self.assertRaises(BadCommand):
            console(command="")


class LedgerErrorsTest(ConsoleCase):

    def test_unknown_ids(self):
        console = told(HELD)
        console("undo")
        for ident in [0, 3, 4, 999, 10**6, 10**6 + 1, 10**59, 10**60 - 1]:
            for command in (f"withdraw {ident}", f"confirm {ident}", f"trust {ident} 3", f"range {ident}"):
                self.refused(console, command, UnknownId, "ident", ident)

    def test_unknown_places(self):
        console = told(HELD)
        for place in ("c", "ab", "outside", "abcdefgh"):
            self.refused(console, f"stock {place}", UnknownPlace, "place", place)

    def test_taken_ids_and_contradictions(self):
        console = told(HELD)
        console("confirm 3")
        console("undo")
        self.refused(console, "move 2 0 b - 9 sure", TakenId, "ident", 2)
        for command, records in (("move 9 0 b - 1 sure", HELD + [(9, 0, "b", "-", 1, None)]),
                                 ("withdraw 1", HELD[1:]),
                                 ("confirm 1", [(1, 0, "-", "a", 2, None)] + HELD[1:])):
            kept = state(console)
            with self.assertRaises(Contradiction) as caught:
                console(command)
            self.assertTrue(plainly_contradicts(records, caught.exception.prices))
            self.assertEqual(state(console), kept)

    def test_too_many(self):
        console = told(FULL)
        for command in ("count 41 9 zz 3 1", "move 41 9 zz - 1 sure"):
            with self.assertRaises(TooMany) as caught:
                console(command)
            self.assertEqual(caught.exception.count, 41)
        self.bad(console, "count 41 9 zz 3 0")
        self.assertEqual(console("save"), plain_text(FULL))
        console("withdraw 40")
        self.assertEqual(console("count 41 9 zz 3 1"), "ok 3")

    def test_nothing_to_do(self):
        console = told(PAIR)
        self.refused(console, "redo", NothingToDo, "action", "redo")
        console("undo")
        console("undo")
        self.refused(console, "undo", NothingToDo, "action", "undo")
        console("redo")
        console("trust 1 9")
        self.refused(console, "redo", NothingToDo, "action", "redo")


class BadCommandTest(ConsoleCase):

    RIGHT = ["new 3 4", "move 9 0 - shelf 5 3", "count 9 1 shelf 4 sure", "withdraw 1", "confirm 1", "trust 1 3",
             "undo", "redo", "story", "range 1", "stock shelf", "gaps", "table", "save"]

    def setUp(self):
        self.console = told(PAIR + [(3, 2, "shelf", "van", 1, 1)])
        self.console("undo")
        self.kept = state(self.console)

    def tearDown(self):
        self.assertEqual(state(self.console), self.kept)

    def test_other_values(self):
        for value in any_values() + OTHER_VALUES + [["undo"], ("undo",), b"undo", {"undo": 1}, [["story"]]]:
            self.bad(self.console, value)

    def test_unknown_words(self):
        for word in ["", "Story", "STORY", "storys", "stor", "add", "help", "ledger", "sure", "none", "ok", "1", "-",
                     "set", "costs", "as", "copy", "__init__", "exit", "\u017fave"]:
            for rest in ("", " 1", " 1 3", " 1 0 a 5 3", " 1 0 - a 5 3"):
                self.bad(self.console, word + rest)

    def test_numbers_of_words(self):
        for command in self.RIGHT:
            words = command.split(" ")
            for many in range(1, len(words)):
                self.bad(self.console, " ".join(words[:many]))
            for more in (words[-1], "1", "sure", "", "x"):
                self.bad(self.console, command + " " + more)

    def test_empty_words(self):
        for command in self.RIGHT:
            self.bad(self.console, " " + command)
            self.bad(self.console, command + " ")
            if " " in command:
                self.bad(self.console, command.replace(" ", "  "))
                self.bad(self.console, command.replace(" ", "  ", 1))
        for command in ("", " ", "  ", "\n", "\t"):
            self.bad(self.console, command)

    def test_other_white_space(self):
        for command in self.RIGHT:
            for mark in ("\n", "\t", "\r", "\u00a0", "\u2003", "\x0b", "\x00"):
                self.bad(self.console, command + mark)
                self.bad(self.console, mark + command)
                if " " in command:
                    self.bad(self.console, command.replace(" ", mark))

    def test_wrong_integers(self):
        forms = ["new {} 10", "new 10 {}", "withdraw {}", "confirm {}", "trust {} 3", "trust 1 {}", "range {}",
                 "move {} 0 - a 5 3", "move 9 {} - a 5 3", "move 9 0 - a {} 3",
                 "count {} 0 a 5 3", "count 9 {} a 5 3", "count 9 0 a {} 3"]
        for form in forms:
            for word in NO_NUMBERS:
                self.bad(self.console, form.format(word))
        for form in ("move 9 0 - a 5 {}", "count 9 0 a 5 {}"):
            for word in NO_NUMBERS:
                if word != "sure":
                    self.bad(self.console, form.format(word))

    def test_wrong_places(self):
        for word in NO_PLACES:
            self.bad(self.console, f"stock {word}")
            self.bad(self.console, f"count 9 0 {word} 5 3")
            if word != "-":
                self.bad(self.console, f"move 9 0 {word} a 5 3")
                self.bad(self.console, f"move 9 0 a {word} 5 3")
        self.bad(self.console, "move 9 0 - - 5 3")
        self.bad(self.console, "move 9 0 a a 5 3")

    def test_wrong_weights_and_costs(self):
        for word in ["0", "1001", "10000", "1000000", "9" * 60, "Sure", "SURE", "None"]:
            self.bad(self.console, f"move 9 0 - a 5 {word}")
            self.bad(self.console, f"count 9 0 a 5 {word}")
            self.bad(self.console, f"trust 1 {word}")
            self.bad(self.console, f"new {word} 10")
            self.bad(self.console, f"new 10 {word}")
        self.bad(self.console, "trust 1 sure")

    def test_parts_out_of_bounds(self):
        for line in ["{} 0 - a 5 3", "9 {} - a 5 3", "9 0 - a {} 3"]:
            for number in ("1000001", "9" * 60):
                self.bad(self.console, "move " + line.format(number))
                self.bad(self.console, "count " + line.replace("- ", "").format(number))
        self.bad(self.console, "move 0 0 - a 5 3")
        self.bad(self.console, "count 0 0 a 5 3")

    def test_one_command_as_another(self):
        self.bad(self.console, "move 9 0 a 5 3")
        self.bad(self.console, "count 9 0 - a 5 3")
        self.bad(self.console, "count 9 0 a b 5 3")

    def test_bad_commands_come_first(self):
        for command in ("trust 77 0", "trust 77 sure", "trust 77 1001", "trust 0 x", "move 1 0 a a 5 3",
                        "count 1 0 shelf 5 0", "move 1 0 van - 5 None", "stock Nowhere"):
            self.bad(self.console, command)

    def test_every_number_where_it_may_stand(self):
        for number in NUMBERS:
            for command in (f"withdraw {number}", f"confirm {number}", f"trust {number} 3", f"range {number}"):
                console = told(PAIR)
                if number in ("1", "2"):
                    console(command)
                else:
                    self.refused(console, command, UnknownId, "ident", int(number))


class RandomCommandsTest(ConsoleCase):

    def test_like_the_functions_over_records(self):
        for seed in range(6):
            chance = random.Random(seed)
            console, stages, at = Console(), [[]], 0
            for _ in range(30):
                held, action = stages[at], chance.choice(["add", "add", "withdraw", "confirm", "undo", "redo"])
                if action in ("undo", "redo"):
                    to = at + (1 if action == "redo" else -1)
                    if not 0 <= to < len(stages):
                        self.refused(console, action, NothingToDo, "action", action)
                        continue
                    at, command = to, action
                else:
                    command, records = self.random_change(chance, action, held)
                    if command is None:
                        continue
                    if Search(records, 10, 10).weight is None:
                        with self.assertRaises(Contradiction):
                            console(command)
                        continue
                    stages = stages[:at + 1] + [records]
                    at += 1
                weight = Search(stages[at], 10, 10).weight
                self.assertEqual(console(command), f"ok {weight}")
                self.has(console, stages[at])

    def random_change(self, chance, action, held):
        free = [ident for ident in range(1, 6) if ident not in [record[0] for record in held]]
        if action == "add" and free:
            source, target = chance.sample("-ab", 2)
            ends = chance.choice([(source, target), (chance.choice("ab"),)])
            amount, weight = chance.randint(0, 3), chance.choice([1, 2, None])
            record = (chance.choice(free), chance.randint(0, 3), *ends, amount, weight)
            return plain_line(record), held + [record]
        if action == "add" or not held:
            return None, held
        record = chance.choice(held)
        rest = [row for row in held if row != record]
        return f"{action} {record[0]}", rest if action == "withdraw" else rest + [record[:-1] + (None,)]


if __name__ == "__main__":
    unittest.main()
