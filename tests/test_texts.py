"""The text of a ledger, what is none, and the table."""

import unittest

from plain_texts import NO_NUMBERS, NO_PLACES, OTHER_VALUES, near_texts, plain_reading
from sample_ledgers import FULL, HELD, answers, filled, history, plain_answers, plain_text, with_history
from sample_records import CONTRADICTIONS, MONTH, PAIR, many_records, orders, small_samples
from sample_values import any_values
from stockcounts import texts as module
from stockcounts.errors import BadText, Contradiction, NothingToDo, StockError
from stockcounts.ledger import Ledger
from stockcounts.texts import ledger_text, read_ledger, table

# Goods that came in and went on; the ends of what a ledger may hold stand in it.
WIDE = [(10**6, 0, "-", "a", 10**6, 1000), (1, 10**6, "a", "abcdefgh", 10**6, None), (999, 10**6, "a", 0, 1)]


class TextCase(unittest.TestCase):

    def bad(self, value):
        with self.assertRaises(BadText) as caught:
            read_ledger(value)
        self.assertIs(caught.exception.value, value)
        self.assertIsInstance(caught.exception, StockError)

    def good(self, text, shortage, surplus, records):
        ledger = read_ledger(text)
        self.assertIs(type(ledger), Ledger)
        self.assertEqual((ledger.records, ledger.shortage, ledger.surplus), (records, shortage, surplus))
        self.assertEqual([ledger_text(ledger), ledger.changes], [text, 0])


class LedgerTextTest(TextCase):

    def test_each_stands_in_its_file(self):
        for name in ["ledger_text", "read_ledger", "table"]:
            self.assertEqual(getattr(module, name).__module__, "stockcounts.texts")

    def test_text(self):
        self.assertEqual(ledger_text(Ledger()), "ledger 10 10")
        ledger = filled([(2, 1, "shelf", 4, None), (1, 0, "-", "shelf", 5, 3), (3, 1, "shelf", "-", 0, 1000)], 1, 1000)
        self.assertEqual(ledger_text(ledger), "\n".join([
            "ledger 1 1000", "move 1 0 - shelf 5 3", "count 2 1 shelf 4 sure", "move 3 1 shelf - 0 1000"]))

    def test_written_amounts_stand_there(self):
        ledger = filled(PAIR)
        self.assertEqual(ledger.story().amounts, {1: 5, 2: 5})
        self.assertEqual(ledger_text(ledger), "ledger 10 10\nmove 1 0 - shelf 5 3\ncount 2 1 shelf 4 2")

    def test_both_ways(self):
        for records in (PAIR, MONTH, HELD, WIDE, FULL, []):
            for mixed in orders(records):
                ledger = Ledger.made(1000, 1, mixed)
                text = plain_text(records, 1000, 1)
                self.assertEqual(ledger_text(ledger), text)
                self.assertIs(read_ledger(text).same(ledger), True)
                self.good(text, 1000, 1, ledger.records)

    def test_both_ways_at_random(self):
        for records, costs in small_samples(31, 200):
            text = plain_text(records, **costs)
            try:
                ledger = Ledger.made(costs["shortage"], costs["surplus"], records)
            except Contradiction:
                self.bad(text)
            else:
                self.assertEqual(ledger_text(ledger), text)
                self.good(text, costs["shortage"], costs["surplus"], ledger.records)

    def test_what_is_read_answers_the_same(self):
        for ledger in (with_history(), filled(MONTH), Ledger.made(2, 3, many_records(4, 40, 10**6))):
            self.assertEqual(answers(read_ledger(ledger_text(ledger))), answers(ledger))

    def test_nothing_to_undo_or_redo(self):
        ledger = read_ledger(plain_text(HELD))
        for step in (ledger.undo, ledger.redo):
            with self.assertRaises(NothingToDo):
                step()
        ledger.withdraw(3)
        self.assertEqual(ledger_text(ledger.as_of(0)), plain_text(HELD))

    def test_leaves_the_ledger(self):
        ledger = with_history()
        kept = history(ledger)
        ledger_text(ledger)
        table(ledger)
        self.assertEqual(history(ledger), kept)


class BadTextTest(TextCase):

    def test_near_texts(self):
        seen = {True: 0, False: 0}
        for records in (PAIR, HELD[:2], [], [(5, 3, "a", 0, None)], HELD[::-1] + [(9, 2, "b", "-", 1, 1)]):
            for text in near_texts(plain_text(records)):
                expected = plain_reading(text)
                seen[expected is not None] += 1
                if expected is None:
                    self.bad(text)
                else:
                    self.good(text, *expected)
        self.assertGreater(min(seen.values()), 100)

    def test_other_values(self):
        for value in any_values() + OTHER_VALUES:
            self.bad(value)

    def test_heads(self):
        for word in NO_NUMBERS + ["0", "1001", "1000000", "9" * 60]:
            self.bad(f"ledger {word} 10")
            self.bad(f"ledger 10 {word}")
        for text in ["", "ledger", "ledger 10", "ledger 10 10 10", "Ledger 10 10", "10 10", "ledger  10 10",
                     "ledger 10 10 ", " ledger 10 10", "ledger 10 10\n", "\nledger 10 10", "ledger\n10\n10",
                     "move 1 0 - a 5 3", "ledger 10 10\nledger 10 10", "ledger 10 10 move 1 0 - a 5 3"]:
            self.bad(text)
        for shortage, surplus in ((1, 1), (1000, 1000), (1, 1000), (1000, 1)):
            self.good(f"ledger {shortage} {surplus}", shortage, surplus, [])

    def test_words_of_records(self):
        forms = ["move {} 0 - a 5 3", "move 1 {} - a 5 3", "move 1 0 - a {} 3", "move 1 0 - a 5 {}",
                 "count {} 0 a 5 3", "count 1 {} a 5 3", "count 1 0 a {} 3", "count 1 0 a 5 {}"]
        for at, form in enumerate(forms):
            for word in NO_NUMBERS:
                if word != "sure" or at % 4 != 3:
                    self.bad("ledger 10 10\n" + form.format(word))
        for form in ["move 1 0 {} a 5 3", "move 1 0 a {} 5 3", "count 1 0 {} 5 3"]:
            for word in NO_PLACES:
                if word != "-" or form.startswith("count"):
                    self.bad("ledger 10 10\n" + form.format(word))
        for line in ["move 0 0 - a 5 3", "move 1000001 0 - a 5 3", "move 1 1000001 - a 5 3", "move 1 0 - a 1000001 3",
                     "move 1 0 - a 5 0", "move 1 0 - a 5 1001", "move 1 0 a a 5 3", "move 1 0 - - 5 3",
                     "count 1 0 - 5 3", "count 1 0 a b 5 3", "move 1 0 a 5 3", "moves 1 0 - a 5 3", "1 0 - a 5 3",
                     "count 1 0 a 5 None", "count 1 0 a 5 Sure", "count 1 0 a 5 sure sure", "move", "count", "sure"]:
            self.bad("ledger 10 10\n" + line)

    def test_ids_that_come_twice(self):
        self.bad("ledger 10 10\ncount 1 0 a 5 3\ncount 1 0 a 5 3")
        self.bad("ledger 10 10\ncount 1 0 a 5 3\nmove 1 1 - b 5 3")

    def test_lines_out_of_sequence(self):
        self.bad("ledger 10 10\ncount 2 0 a 5 3\ncount 1 0 a 5 3")
        self.bad("ledger 10 10\ncount 1 10 a 5 3\ncount 2 9 a 5 3")
        self.good("ledger 10 10\ncount 2 9 a 5 3\ncount 1 10 a 5 3", 10, 10, [(2, 9, "a", 5, 3), (1, 10, "a", 5, 3)])
        self.bad("count 1 0 a 5 3\nledger 10 10")

    def test_many_records(self):
        records = [(ident, 5, "a", 1, 2) for ident in range(1, 42)]
        self.good(plain_text(records[:40]), 10, 10, records[:40])
        self.bad(plain_text(records))
        self.bad(plain_text([(ident, 5, "a", 1, 2) for ident in range(1, 2000)]))

    def test_contradictions(self):
        for records in CONTRADICTIONS:
            self.bad(plain_text(records))
            eased = sorted([record[:-1] + (7,) for record in records], key=lambda record: (record[1], record[0]))
            self.good(plain_text(eased), 10, 10, eased)

    def test_by_name(self):
        self.assertEqual(ledger_text(ledger=read_ledger(text="ledger 3 4")), "ledger 3 4")
        self.assertEqual(table(ledger=filled(PAIR[:1])), "      1        5 ->        5 right")


class TableTest(TextCase):

    def test_example(self):
        self.assertEqual(table(filled(PAIR[:1])), '      1        5 ->        5 right')

    def test_verdicts(self):
        self.assertEqual(table(filled(PAIR)), "      1        5 ->        5 right\n      2        4 ->        5 wrong")
        records = [(20, 0, "-", "a", 5, 2), (3, 1, "a", 3, 2)]
        self.assertEqual(table(filled(records)),
                         "     20        5 ->        3 open\n      3        3 ->        3 open")

    def test_without_records(self):
        self.assertEqual(table(Ledger()), "")

    def test_widths(self):
        self.assertEqual(table(filled(WIDE)), "\n".join([
            "1000000  1000000 ->  1000000 right", "      1  1000000 ->  1000000 right",
            "    999        0 ->        0 right"]))
        for many in range(7):
            amount = 10**many
            ledger = filled([(amount, 3, "-", "a", amount, 5)])
            self.assertEqual(table(ledger), f"{' ' * (6 - many)}{amount} {' ' * (7 - many)}{amount} -> "
                                            f"{' ' * (7 - many)}{amount} right")

    def test_amounts_greater_than_those_written_down(self):
        # Twelve million came in, at once, though nothing was written down.
        records = [(1, 0, "-", "a", 0, 1)] + [(ident, 1, "a", "-", 10**6, None) for ident in range(2, 14)]
        self.assertEqual(table(filled(records)).split("\n")[0], "      1        0 -> 12000000 wrong")

    def test_wider_than_the_columns(self):
        # Callers may go somewhat beyond the bounds, and then the columns grow.
        ledger = Ledger.made(10, 10, [(12345678, 0, "-", "a", 123456789, 1)])
        self.assertEqual(table(ledger), "12345678 123456789 -> 123456789 right")

    def test_month(self):
        for mixed in orders(MONTH):
            self.assertEqual(table(Ledger.made(10, 10, mixed)), plain_answers(MONTH)["table"])


if __name__ == "__main__":
    unittest.main()
