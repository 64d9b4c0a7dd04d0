"""The ledger: its parts, its answers, the changes, and the changes that are refused."""

import inspect
import unittest

from plain_search import Search, plainly_contradicts
from sample_ledgers import FULL, HELD, answers, filled, history, in_order, parts, plain_answers, with_history
from sample_records import CHOICE, CONTRADICTIONS, MONTH, PAIR, many_records, orders, small_samples
from sample_values import BAD_COSTS, BAD_RECORDS, BAD_WEIGHTS, unknown_ids
from stockcounts import ledger as module
from stockcounts.errors import (
    BadCost, BadRecord, Contradiction, NothingToDo, StockError, TakenId, TooMany, UnknownId)
from stockcounts.ledger import Ledger
from stockcounts.prices import shows_contradiction
from stockcounts.stories import Story

class LedgerCase(unittest.TestCase):

    def refused(self, ledger, call, kind, attribute, value):
        """The call raises the error with the very value, and the ledger stays as it is in every respect."""
        kept = history(ledger), answers(ledger)
        with self.assertRaises(kind) as caught:
            call()
        self.assertIs(type(caught.exception), kind)
        self.assertIsInstance(caught.exception, StockError)
        self.assertIs(getattr(caught.exception, attribute), value)
        self.assertEqual((history(ledger), answers(ledger)), kept)

    def contradicts(self, ledger, call, records):
        """The call raises Contradiction, whose prices show it for the records that there would be."""
        kept = history(ledger), answers(ledger)
        with self.assertRaises(Contradiction) as caught:
            call()
        self.assertIs(shows_contradiction(records, caught.exception.prices), True)
        self.assertTrue(plainly_contradicts(records, caught.exception.prices))
        self.assertEqual((history(ledger), answers(ledger)), kept)

    def has(self, ledger, records, shortage=10, surplus=10):
        self.assertEqual(answers(ledger), plain_answers(records, shortage, surplus))


class PartsTest(LedgerCase):

    def test_examples(self):
        ledger = Ledger()
        self.assertIsNone(ledger.add((1, 0, '-', 'shelf', 5, 3)))
        self.assertIsNone(ledger.add((2, 1, 'shelf', 4, 2)))
        self.assertEqual([ledger.weight, ledger.changes, ledger.story()[2]], [2, 2, 5])
        self.assertIsNone(ledger.confirm(2))
        self.assertEqual([ledger.weight, ledger.story().amounts], [3, {1: 4, 2: 4}])

    def test_members_stand_in_the_class(self):
        self.assertEqual(Ledger.__module__, "stockcounts.ledger")
        self.assertEqual(module.Ledger.__bases__, (object,))
        for name in ["__init__", "add", "withdraw", "confirm", "trust", "set_costs", "story", "range_of", "verdict",
                     "as_of", "record", "undo", "redo", "copied", "same"]:
            self.assertTrue(inspect.isfunction(vars(Ledger)[name]), name)
        for name in ("records", "shortage", "surplus", "weight", "changes"):
            self.assertIsInstance(vars(Ledger)[name], property)
        self.assertIsInstance(vars(Ledger)["made"], classmethod)

    def test_limit(self):
        self.assertEqual([Ledger.LIMIT, Ledger().LIMIT, type(Ledger.LIMIT)], [40, 40, int])

    def test_without_records(self):
        ledger = Ledger()
        self.assertEqual(parts(ledger), ([], 10, 10, 0, 0))
        self.has(ledger, [])
        self.assertEqual(history(ledger), ([([], 10, 10, 0, 0)], 0))

    def test_costs(self):
        for shortage, surplus in ((1, 1), (1000, 1000), (1, 1000), (1000, 1), (3, 7)):
            ledger = Ledger(shortage=shortage, surplus=surplus)
            self.assertEqual([ledger.shortage, ledger.surplus], [shortage, surplus])
        self.assertEqual([Ledger(shortage=3).surplus, Ledger(surplus=3).shortage], [10, 10])
        with self.assertRaises(TypeError):
            Ledger(10, 10)

    def test_bad_costs(self):
        for value in BAD_COSTS:
            for costs in ({"shortage": value}, {"surplus": value}, {"surplus": [value], "shortage": value},
                          {"shortage": 1000, "surplus": value}):
                with self.assertRaises(BadCost) as caught:
                    Ledger(**costs)
                self.assertIs(caught.exception.value, value)
                self.assertIsInstance(caught.exception, StockError)

    def test_records_are_told_in_their_sequence(self):
        for mixed in orders(CHOICE + [(9, 0, "b", 3, 1), (8, 7, "b", 3, 1)]):
            self.assertEqual(filled(mixed).records, in_order(mixed))

    def test_caller_changes_what_is_returned(self):
        ledger = filled(MONTH)
        records = ledger.records
        self.assertIs(type(records), list)
        records.clear()
        ledger.records.append(PAIR[0])
        ledger.story().amounts.clear()
        self.has(ledger, MONTH)

    def test_nothing_of_it_is_assigned(self):
        ledger = filled(PAIR)
        for name in ("records", "shortage", "surplus", "weight", "changes"):
            with self.assertRaises(AttributeError):
                setattr(ledger, name, 5)
        self.has(ledger, PAIR)


class AnswersTest(LedgerCase):

    def test_month(self):
        for shortage, surplus in ((10, 10), (1, 1), (1, 1000), (1000, 1)):
            self.has(filled(MONTH, shortage, surplus), MONTH, shortage, surplus)
            for mixed in orders(MONTH):
                self.has(Ledger.made(shortage, surplus, mixed), MONTH, shortage, surplus)

    def test_like_a_plain_search(self):
        told = 0
        for records, costs in small_samples(21, 150):
            search = Search(records, **costs)
            if search.weight is None:
                continue
            ledger = Ledger.made(costs["shortage"], costs["surplus"], records)
            self.assertEqual([ledger.weight, ledger.story().amounts], [search.weight, search.best()])
            for record in records:
                amounts = search.amounts_of(record[0])
                self.assertEqual(ledger.range_of(record[0]), (amounts[0], amounts[-1]))
                told += 1
        self.assertGreater(told, 100)

    def test_many_records(self):
        for greatest in (3, 10**6):
            records = many_records(5, 40, greatest)
            self.has(Ledger.made(10, 10, records), records)

    def test_story(self):
        story = filled(PAIR).story()
        self.assertIs(type(story), Story)
        self.assertEqual([len(story), story.amounts, story.stocks], [2, {1: 5, 2: 5}, {"shelf": [0, 5, 5]}])

    def test_range_and_verdict(self):
        ledger = filled(CHOICE)
        self.assertEqual([ledger.range_of(1), ledger.verdict(1), ledger.range_of(2), ledger.verdict(2)],
                         [(3, 5), "open", (3, 5), "open"])
        ledger.confirm(2)
        self.assertEqual([ledger.range_of(1), ledger.verdict(1), ledger.range_of(2), ledger.verdict(2)],
                         [(3, 3), "wrong", (3, 3), "right"])

    def test_record(self):
        ledger = filled(MONTH)
        self.assertEqual([ledger.record(record[0]) for record in MONTH], MONTH)
        ledger.confirm(9)
        self.assertEqual(ledger.record(9), (9, 4, "shelf", "shop", 2, None))

    def test_questions_about_unknown_ids(self):
        for ledger in (filled(MONTH), with_history(), Ledger()):
            for value in unknown_ids(MONTH):
                for name in ("range_of", "verdict", "record"):
                    with self.assertRaises(UnknownId) as caught:
                        getattr(ledger, name)(value)
                    self.assertIs(caught.exception.ident, value)

    def test_questions_change_nothing(self):
        ledger = with_history()
        kept = history(ledger)
        answers(ledger)
        for call in (lambda: ledger.record(99), lambda: ledger.range_of([1]), lambda: ledger.verdict(True),
                     lambda: ledger.as_of(99)):
            with self.assertRaises(StockError):
                call()
        ledger.as_of(1)
        ledger.copied()
        ledger.same(Ledger())
        self.assertEqual(history(ledger), kept)


class AddTest(LedgerCase):

    def test_adds(self):
        for mixed in orders(CHOICE + [(7, 1, "b", "a", 4, 1)]):
            ledger, held = Ledger(), []
            for record in mixed:
                ledger.add(record)
                held.append(record)
                self.has(ledger, held)
                self.assertEqual(ledger.changes, len(held))

    def test_bounds(self):
        for record in [(1, 0, "a", 0, 1), (10**6, 10**6, "abcdefgh", 10**6, 1000), (5, 1, "z", "-", 10**6, 1000),
                       (5, 1, "-", "z", 10**6, None)]:
            self.has(filled([record]), [record])

    def test_bad_records(self):
        ledger = with_history()
        for value in BAD_RECORDS:
            self.refused(ledger, lambda: ledger.add(value), BadRecord, "value", value)

    def test_taken_ids(self):
        ledger = with_history()
        for ident in (1, 2, 3):
            for record in [(ident, 0, "a", 5, 3), HELD[ident - 1], (ident, 0, "b", "-", 9, None)]:
                self.refused(ledger, lambda: ledger.add(record), TakenId, "ident", ident)
        ledger.withdraw(3)
        ledger.add((3, 7, "c", 5, 1))
        self.has(ledger, HELD[:2] + [(3, 7, "c", 5, 1)], 7, 9)

    def test_contradictions(self):
        ledger = with_history()
        for record in [(9, 0, "b", "-", 1, None), (9, 1, "b", "-", 4, None), (9, 1, "b", "c", 4, None)]:
            self.contradicts(ledger, lambda: ledger.add(record), HELD + [record])
        for records in CONTRADICTIONS:
            for mixed in orders(records):
                ledger = Ledger()
                with self.assertRaises(Contradiction) as caught:
                    for at, record in enumerate(mixed):
                        ledger.add(record)
                self.assertTrue(plainly_contradicts(mixed[:at + 1], caught.exception.prices))
                self.has(ledger, mixed[:at])

    def test_prices_of_the_error_are_new(self):
        ledger = filled(HELD)
        record = (9, 0, "b", "-", 1, None)
        for _ in range(2):
            with self.assertRaises(Contradiction) as caught:
                ledger.add(record)
            self.assertTrue(plainly_contradicts(HELD + [record], caught.exception.prices))
            for row in caught.exception.prices.values():
                row.clear()
        self.has(ledger, HELD)


class FullLedgerTest(LedgerCase):

    def test_full(self):
        ledger = filled(FULL)
        self.assertEqual([len(ledger.records), ledger.changes], [40, 40])
        self.has(ledger, FULL)
        contrary = (41, 9, "zz", "-", 1, None)
        for record in [(41, 9, "zz", 3, 1), contrary, (10**6, 0, "-", "a", 1, 1)]:
            with self.assertRaises(TooMany) as caught:
                ledger.add(record)
            self.assertEqual([caught.exception.count, type(caught.exception.count)], [41, int])
        self.assertEqual(parts(ledger)[0], in_order(FULL))
        ledger.undo()
        ledger.redo()

    def test_other_errors_come_ahead(self):
        ledger = filled(FULL)
        for value in BAD_RECORDS:
            with self.assertRaises(BadRecord) as caught:
                ledger.add(value)
            self.assertIs(caught.exception.value, value)
        for record in [FULL[4], (5, 0, "zz", "-", 1, None), (40, 9, "zz", 3, 1)]:
            with self.assertRaises(TakenId) as caught:
                ledger.add(record)
            self.assertEqual(caught.exception.ident, record[0])
        self.assertEqual([ledger.changes, ledger.records], [40, in_order(FULL)])

    def test_room_for_one(self):
        ledger = filled(FULL[:39])
        ledger.add(FULL[39])
        ledger.withdraw(7)
        contrary = (41, 9, "zz", "-", 1, None)
        self.contradicts(ledger, lambda: ledger.add(contrary), ledger.records + [contrary])
        ledger.add((41, 9, "zz", 3, 1))
        self.assertEqual([len(ledger.records), ledger.changes], [40, 42])
        with self.assertRaises(TooMany):
            ledger.add((7, 0, "a", 1, 1))

    def test_other_changes_of_a_full_ledger(self):
        ledger = filled(FULL)
        ledger.confirm(1)
        ledger.trust(1, 9)
        ledger.set_costs(1, 2)
        ledger.withdraw(2)
        self.has(ledger, [(1, 1, "-", "b", 1, 9)] + FULL[2:], 1, 2)


class WithdrawAndConfirmTest(LedgerCase):

    def test_withdraws(self):
        # Without the sure move, which takes what another one brings, they may go in any sequence.
        for mixed in orders([record for record in MONTH if record[0] != 4]):
            ledger, held = Ledger.made(10, 10, mixed), list(mixed)
            while held:
                record = held.pop()
                self.assertIsNone(ledger.withdraw(record[0]))
                self.has(ledger, held)
            self.assertEqual(ledger.changes, len(mixed))

    def test_confirms(self):
        ledger = filled(MONTH)
        for ident in (11, 4, 11):
            self.assertIsNone(ledger.confirm(ident))
            sure = [row[:-1] + (None,) if row[0] in (ident, 11) else row for row in MONTH]
            self.has(ledger, sure)
        self.assertEqual(ledger.changes, len(MONTH) + 3)

    def test_unknown_ids(self):
        ledger = with_history()
        for value in unknown_ids(HELD):
            self.refused(ledger, lambda: ledger.withdraw(value), UnknownId, "ident", value)
            self.refused(ledger, lambda: ledger.confirm(value), UnknownId, "ident", value)

    def test_contradictions(self):
        ledger = with_history()
        self.contradicts(ledger, lambda: ledger.withdraw(1), HELD[1:])
        self.contradicts(ledger, lambda: ledger.confirm(1), [HELD[0][:-1] + (None,)] + HELD[1:])
        self.assertEqual(ledger.changes, 4)

    def test_unknown_ids_come_ahead_of_contradictions(self):
        # Without the record 1 there is no story; but no record is meant by True.
        ledger = filled(HELD)
        for value in (True, "1", [1]):
            self.refused(ledger, lambda: ledger.withdraw(value), UnknownId, "ident", value)
            self.refused(ledger, lambda: ledger.confirm(value), UnknownId, "ident", value)


class TrustTest(LedgerCase):

    def test_gives_a_weight(self):
        for weight in (1, 2, 3, 1000):
            ledger = filled(PAIR)
            self.assertIsNone(ledger.trust(2, weight))
            self.has(ledger, [PAIR[0], (2, 1, "shelf", 4, weight)])

    def test_sure_records_become_unsure(self):
        ledger = filled(HELD)
        self.assertIsNone(ledger.trust(2, 1))
        self.has(ledger, [HELD[0], (2, 1, "a", "b", 3, 1), HELD[2]])
        ledger.withdraw(1)
        self.has(ledger, [(2, 1, "a", "b", 3, 1), HELD[2]])

    def test_unknown_ids_come_first(self):
        ledger = with_history()
        for value in unknown_ids(HELD):
            for weight in (3, None, [3], 0):
                self.refused(ledger, lambda: ledger.trust(value, weight), UnknownId, "ident", value)

    def test_bad_weights(self):
        ledger = with_history()
        for ident in (1, 2):
            for value in BAD_WEIGHTS:
                self.refused(ledger, lambda: ledger.trust(ident, value), BadRecord, "value", value)


class SetCostsTest(LedgerCase):

    def test_changes_the_costs(self):
        ledger = filled(MONTH)
        for shortage, surplus in ((1, 1), (1000, 1000), (1, 1000), (1000, 1), (1000, 1)):
            self.assertIsNone(ledger.set_costs(shortage, surplus))
            self.has(ledger, MONTH, shortage, surplus)
        self.assertEqual(ledger.changes, len(MONTH) + 5)

    def test_bad_costs(self):
        ledger = with_history()
        for value in BAD_COSTS:
            for shortage, surplus in ((value, 5), (5, value), (value, [value])):
                self.refused(ledger, lambda: ledger.set_costs(shortage, surplus), BadCost, "value", value)


class NoChangeTest(LedgerCase):

    def test_a_change_that_leaves_everything_counts(self):
        ledger = filled(HELD)
        for change in (lambda: ledger.confirm(2), lambda: ledger.trust(1, 2), lambda: ledger.set_costs(10, 10)):
            before = answers(ledger)
            many = ledger.changes
            change()
            self.assertEqual([answers(ledger), ledger.changes], [before, many + 1])
        self.assertEqual(history(ledger)[1], 6)

    def test_it_forgets_what_was_undone(self):
        ledger = filled(HELD)
        ledger.undo()
        ledger.set_costs(10, 10)
        with self.assertRaises(NothingToDo):
            ledger.redo()
        self.has(ledger, HELD[:2])


class NamesTest(LedgerCase):

    def test_by_name(self):
        ledger = Ledger(surplus=9, shortage=8)
        self.assertEqual([ledger.shortage, ledger.surplus], [8, 9])
        for record in HELD:
            ledger.add(record=record)
        ledger.trust(weight=7, ident=3)
        ledger.confirm(ident=3)
        ledger.set_costs(surplus=5, shortage=6)
        self.has(ledger, HELD[:2] + [HELD[2][:-1] + (None,)], 6, 5)
        self.assertEqual([ledger.range_of(ident=2), ledger.verdict(ident=1), ledger.record(ident=1)],
                         [(3, 3), "wrong", HELD[0]])
        ledger.withdraw(ident=3)
        self.assertEqual([ledger.as_of(number=6).surplus, ledger.as_of(number=5).surplus], [5, 9])
        self.assertIs(ledger.same(other=Ledger.made(records=HELD[:2], surplus=5, shortage=6)), True)


if __name__ == "__main__":
    unittest.main()
