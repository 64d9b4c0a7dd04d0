"""Comparing ledgers, and changes that are only asked about."""

import inspect
import random
import unittest

from plain_search import Search, plainly_contradicts
from sample_ledgers import FULL, HELD, answers, filled, history, plain_answers, with_history
from sample_records import CHOICE, MONTH, PAIR, many_records, orders, small_records, small_samples
from sample_values import BAD_RECORDS, unknown_ids
from stockcounts import compare as module
from stockcounts.best import best_story
from stockcounts.compare import changed_amounts, doubtful, if_added, if_confirmed, if_withdrawn, joined
from stockcounts.errors import BadRecord, Contradiction, NothingToDo, StockError, TakenId, TooMany, UnknownId
from stockcounts.ledger import Ledger
from stockcounts.ranges import verdicts
from stockcounts.records import are_records

ASKED = {"add": if_added, "withdraw": if_withdrawn, "confirm": if_confirmed}


class CompareCase(unittest.TestCase):

    def stays(self, ledger):
        """Check behind the test that the ledger is as it is now, also in what it can undo and redo."""
        self.addCleanup(lambda kept: self.assertEqual((history(ledger), answers(ledger)), kept),
                        (history(ledger), answers(ledger)))
        return ledger


class IfTest(CompareCase):

    def asked(self, ledger, name, value):
        """The answer or the error is that of the change itself, made on a copy."""
        before = ledger.copied()
        kept = history(ledger)
        try:
            getattr(before, name)(value)
            expected = before.weight
        except Contradiction:
            expected = None
        except StockError as error:
            expected = error
        if isinstance(expected, StockError):
            with self.assertRaises(type(expected)) as caught:
                ASKED[name](ledger, value)
            self.assertEqual(vars(caught.exception), vars(expected))
        else:
            self.assertEqual(ASKED[name](ledger, value), expected)
        self.assertEqual(history(ledger), kept)
        return expected

    def test_each_stands_in_its_file(self):
        for name in ["changed_amounts", "if_added", "if_withdrawn", "if_confirmed", "doubtful", "joined"]:
            self.assertEqual(getattr(module, name).__module__, "stockcounts.compare")

    def test_added(self):
        ledger = self.stays(filled(PAIR))
        self.assertEqual(if_added(ledger, (3, 2, "shelf", 4, 1)), 3)
        self.assertEqual(if_added(ledger, (3, 2, "shelf", 4, None)), 3)
        self.assertEqual(if_added(ledger, (3, 2, "shelf", 5, 9)), 2)
        self.assertIsNone(if_added(ledger, (3, 0, "van", "shelf", 1, None)))
        self.assertEqual(if_added(Ledger(), PAIR[0]), 0)

    def test_withdrawn_and_confirmed(self):
        ledger = self.stays(filled(PAIR))
        self.assertEqual([if_withdrawn(ledger, 1), if_withdrawn(ledger, 2)], [8, 0])
        self.assertEqual([if_confirmed(ledger, 1), if_confirmed(ledger, 2)], [2, 3])
        held = self.stays(with_history())
        self.assertIsNone(if_withdrawn(held, 1))
        self.assertIsNone(if_confirmed(held, 1))
        self.assertEqual([if_withdrawn(held, 2), if_confirmed(held, 2)], [12, 2])

    def test_errors(self):
        ledger = self.stays(with_history())
        for value in BAD_RECORDS:
            with self.assertRaises(BadRecord) as caught:
                if_added(ledger, value)
            self.assertIs(caught.exception.value, value)
        for record in [HELD[0], (2, 0, "b", "-", 9, None)]:
            with self.assertRaises(TakenId) as caught:
                if_added(ledger, record)
            self.assertEqual(caught.exception.ident, record[0])
        for value in unknown_ids(HELD):
            for function in (if_withdrawn, if_confirmed):
                with self.assertRaises(UnknownId) as caught:
                    function(ledger, value)
                self.assertIs(caught.exception.ident, value)

    def test_full_ledgers(self):
        ledger = filled(FULL)
        for record in [(41, 9, "zz", 3, 1), (41, 9, "zz", "-", 1, None)]:
            with self.assertRaises(TooMany) as caught:
                if_added(ledger, record)
            self.assertEqual(caught.exception.count, 41)
        with self.assertRaises(TakenId):
            if_added(ledger, (40, 9, "zz", "-", 1, None))
        ledger.withdraw(3)
        self.assertIsNone(if_added(ledger, (41, 9, "zz", "-", 1, None)))
        self.assertEqual(if_added(ledger, (41, 9, "zz", 0, 1)), 0)
        self.assertEqual(ledger.changes, 41)

    def test_like_the_change_itself(self):
        chance, seen = random.Random(8), {}
        for records, costs in small_samples(41, 120):
            if Search(records, **costs).weight is None:
                continue
            ledger = Ledger.made(costs["shortage"], costs["surplus"], records)
            added = small_records(chance, 3) + [record for record in records[:1]] + [5, (1, 0, "a", "a", 1, 1)]
            for record in added:
                found = self.asked(ledger, "add", record)
                seen["add", type(found)] = True
                if are_records(records + [record]):
                    weight = Search(records + [record], **costs).weight if len(records) < 5 else found
                    self.assertEqual(found, weight)
            for ident in [record[0] for record in records] + [0, True, 77]:
                for name in ("withdraw", "confirm"):
                    seen[name, type(self.asked(ledger, name, ident))] = True
        for name, other in (("add", BadRecord), ("add", TakenId), ("withdraw", UnknownId), ("confirm", UnknownId)):
            for kind in (int, type(None), other):
                self.assertIn((name, kind), seen)

    def test_by_name(self):
        ledger = filled(PAIR)
        self.assertEqual(if_added(record=(3, 2, "shelf", 4, 1), ledger=ledger), 3)
        self.assertEqual(if_withdrawn(ident=1, ledger=ledger), 8)
        self.assertEqual(if_confirmed(ident=2, ledger=ledger), 3)


class ChangedAmountsTest(CompareCase):

    def test_changes(self):
        first = self.stays(filled(PAIR))
        second = self.stays(filled(PAIR))
        self.assertEqual(changed_amounts(first, second), [])
        third = filled(PAIR)
        third.confirm(2)
        self.assertEqual(changed_amounts(first, third), [(1, 5, 4), (2, 5, 4)])
        self.assertEqual(changed_amounts(third, first), [(1, 4, 5), (2, 4, 5)])
        self.assertEqual(changed_amounts(first, first), [])

    def test_ids_that_only_one_has(self):
        first = filled([(1, 0, "-", "a", 5, 1), (2, 0, "-", "b", 5, 1)])
        second = filled([(3, 0, "-", "a", 6, 1), (2, 0, "-", "c", 6, 1)])
        self.assertEqual([changed_amounts(first, second), changed_amounts(second, first)], [[(2, 5, 6)], [(2, 6, 5)]])
        self.assertEqual([changed_amounts(first, Ledger()), changed_amounts(Ledger(), first)], [[], []])

    def test_ascending_ids(self):
        # Of the two ledgers the sequences differ, and none of them is that of the ids.
        first, second = [filled([(ident, time, "-", "a", amount, 1) for time, (ident, amount) in enumerate(rows)])
                         for rows in ([(30, 1), (7, 1), (100, 1), (9, 4)], [(100, 2), (9, 4), (7, 2), (30, 2)])]
        self.assertEqual(changed_amounts(first, second), [(7, 1, 2), (30, 1, 2), (100, 1, 2)])

    def test_at_random(self):
        told = 0
        for seed in range(8):
            one, other = many_records(seed, 20, 4), many_records(seed, 25, 5)[:20]
            other = [(one[at][0], *record[1:]) if at % 2 else record for at, record in enumerate(other)]
            first, second = Ledger.made(3, 4, one), Ledger.made(5, 2, other)
            before = best_story(one, shortage=3, surplus=4)
            after = best_story(other, shortage=5, surplus=2)
            expected = [(ident, before[ident], after[ident]) for ident in sorted(set(before) & set(after))
                        if before[ident] != after[ident]]
            self.assertEqual(changed_amounts(first, second), expected)
            told += len(expected)
        self.assertGreater(told, 20)

    def test_the_list_is_new(self):
        first, second = filled(PAIR), filled(PAIR, 1)
        found = changed_amounts(first, second)
        self.assertEqual([type(found), type(found[0])], [list, tuple])
        found.clear()
        self.assertEqual(changed_amounts(second=second, first=first), [(2, 5, 4)])


class DoubtfulTest(CompareCase):

    def test_example(self):
        self.assertEqual(list(doubtful(filled(PAIR))), [2])

    def test_wrong_and_open(self):
        self.assertEqual(list(doubtful(filled(CHOICE))), [1, 2])
        self.assertEqual(list(doubtful(Ledger())), [])
        self.assertEqual(list(doubtful(filled(PAIR[:1]))), [])

    def test_sequence(self):
        ledger = self.stays(filled([(9, 0, "-", "a", 5, 2), (4, 1, "a", 3, 2), (2, 1, "-", "b", 1, 3)]))
        self.assertTrue(inspect.isgenerator(doubtful(ledger)))
        self.assertEqual(list(doubtful(ledger=ledger)), [9, 4])

    def test_month(self):
        for mixed in orders(MONTH):
            ledger = Ledger.made(10, 10, mixed)
            expected = [row[0] for row in verdicts(MONTH, shortage=10, surplus=10) if row[3] != "right"]
            self.assertEqual(list(doubtful(ledger)), expected)
            self.assertNotEqual(expected, [])

    def test_the_ledger_changes_while_they_are_told(self):
        ledger, found = filled(CHOICE), []
        for ident in doubtful(ledger):
            found.append(ident)
            ledger.trust(2, 1000)
        self.assertEqual(found, [1, 2])


class JoinedTest(CompareCase):

    def test_joins(self):
        first = self.stays(Ledger.made(3, 4, MONTH[:4]))
        second = self.stays(Ledger.made(5, 6, MONTH[4:]))
        for one, other, costs in ((first, second, (3, 4)), (second, first, (5, 6))):
            ledger = joined(one, other)
            self.assertIs(type(ledger), Ledger)
            self.assertEqual(answers(ledger), plain_answers(MONTH, *costs))
            self.assertEqual(ledger.changes, 0)
            for step in (ledger.undo, ledger.redo):
                with self.assertRaises(NothingToDo):
                    step()
            ledger.withdraw(1)
            ledger.set_costs(1, 1)

    def test_without_records(self):
        ledger = self.stays(with_history())
        self.assertEqual(answers(joined(ledger, Ledger())), plain_answers(HELD, 7, 9))
        self.assertEqual(answers(joined(Ledger(), ledger)), plain_answers(HELD))
        self.assertEqual(answers(joined(Ledger(shortage=1), Ledger())), plain_answers([], 1, 10))

    def test_taken_ids(self):
        first = self.stays(filled([(ident, 9 - ident % 3, "a", 1, 1) for ident in (8, 3, 5, 100)]))
        second = self.stays(filled([(ident, ident % 4, "b", 1, 1) for ident in (5, 100, 8, 1)]))
        for one, other in ((first, second), (second, first)):
            with self.assertRaises(TakenId) as caught:
                joined(one, other)
            self.assertEqual(caught.exception.ident, 5)
        with self.assertRaises(TakenId) as caught:
            joined(first, first)
        self.assertEqual(caught.exception.ident, 3)

    def test_too_many(self):
        rows = [(ident, 0, "a", 1, 1) for ident in range(1, 41)]
        many = {39: Ledger.made(1, 1, rows[:39]), 40: Ledger.made(1, 1, rows)}
        one = filled([(50, 0, "a", 1, 1)])
        self.assertEqual(len(joined(many[39], one).records), 40)
        self.assertEqual(len(joined(one, many[39]).records), 40)
        for first, second in ((many[40], one), (one, many[40])):
            with self.assertRaises(TooMany) as caught:
                joined(first, second)
            self.assertEqual(caught.exception.count, 41)
        others = Ledger.made(1, 1, [(ident, 0, "a", 1, 1) for ident in range(101, 141)])
        with self.assertRaises(TooMany) as caught:
            joined(many[40], others)
        self.assertEqual(caught.exception.count, 80)

    def test_contradictions(self):
        first = self.stays(filled([(1, 0, "-", "a", 5, None), (2, 1, "a", "b", 3, None)]))
        second = self.stays(filled([(3, 1, "-", "a", 1, None), (4, 5, "a", "-", 1, None)]))
        third = self.stays(filled([(5, 0, "a", 4, None), (6, 0, "a", "-", 4, None), (7, 0, "b", 2, 3)]))
        self.assertEqual(answers(joined(first, second)), plain_answers(first.records + second.records))
        for one, other in ((first, third), (third, first)):
            with self.assertRaises(Contradiction) as caught:
                joined(one, other)
            self.assertTrue(plainly_contradicts(first.records + third.records, caught.exception.prices))

    def test_sequence_of_errors(self):
        # What the first one takes for sure, the second one counts as gone.
        others = [(ident, 7, "z", 1, 1) for ident in range(3, 41)]
        first = Ledger.made(1, 1, [(1, 0, "-", "a", 5, None), (2, 2, "a", "-", 5, None)] + others)
        second = filled([(41, 1, "a", 0, None), (40, 7, "c", 1, 1)])
        with self.assertRaises(TakenId) as caught:
            joined(first, second)
        self.assertEqual(caught.exception.ident, 40)
        second.withdraw(40)
        with self.assertRaises(TooMany) as caught:
            joined(first, second)
        self.assertEqual(caught.exception.count, 41)
        first.withdraw(40)
        with self.assertRaises(Contradiction) as caught:
            joined(first, second)
        self.assertTrue(plainly_contradicts(first.records + second.records, caught.exception.prices))

    def test_by_name(self):
        ledger = joined(second=filled(PAIR, 1, 2), first=Ledger(shortage=3, surplus=4))
        self.assertEqual(answers(ledger), plain_answers(PAIR, 3, 4))


if __name__ == "__main__":
    unittest.main()
