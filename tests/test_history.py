"""Undo and redo, ledgers as they were, copies, and ledgers that came about in different ways."""

import random
import unittest

from plain_search import Search
from sample_ledgers import HELD, answers, filled, history, parts, plain_answers, with_history
from sample_records import MONTH, orders
from sample_values import any_values
from stockcounts.errors import (
    BadCost, BadNumber, BadRecord, Contradiction, NothingToDo, StockError, TakenId, TooMany, UnknownId)
from stockcounts.ledger import Ledger


class UndoTest(unittest.TestCase):

    def refused(self, ledger, action):
        kept = parts(ledger)
        for _ in range(2):
            with self.assertRaises(NothingToDo) as caught:
                getattr(ledger, action)()
            self.assertEqual(caught.exception.action, action)
            self.assertIsInstance(caught.exception, StockError)
        self.assertEqual(parts(ledger), kept)

    def changed_in_every_way(self):
        """A ledger that was changed in every way, and what it was before and behind each of the changes."""
        ledger = Ledger()
        found = [parts(ledger)]
        for change in [lambda: ledger.add(HELD[0]), lambda: ledger.add(HELD[1]), lambda: ledger.add(HELD[2]),
                       lambda: ledger.confirm(3), lambda: ledger.trust(2, 8), lambda: ledger.withdraw(3),
                       lambda: ledger.set_costs(1, 1000), lambda: ledger.set_costs(1, 1000),
                       lambda: ledger.confirm(2), lambda: ledger.add((9, 9, "b", 0, 1))]:
            change()
            found.append(parts(ledger))
        self.assertEqual([stage[4] for stage in found], list(range(11)))
        return ledger, found

    def test_nothing_to_do(self):
        ledger = Ledger()
        self.refused(ledger, "undo")
        self.refused(ledger, "redo")
        ledger.add(HELD[0])
        self.refused(ledger, "redo")
        ledger.undo()
        self.refused(ledger, "undo")
        ledger.redo()
        self.refused(ledger, "redo")

    def test_to_the_first_and_the_last_change(self):
        ledger, found = self.changed_in_every_way()
        for _ in range(2):
            self.refused(ledger, "redo")
            for stage in found[-2::-1]:
                self.assertIsNone(ledger.undo())
                self.assertEqual(parts(ledger), stage)
                self.assertEqual(answers(ledger), plain_answers(*stage[:3]))
            self.refused(ledger, "undo")
            for stage in found[1:]:
                self.assertIsNone(ledger.redo())
                self.assertEqual(parts(ledger), stage)
                self.assertEqual(answers(ledger), plain_answers(*stage[:3]))

    def test_up_and_down(self):
        ledger, found = self.changed_in_every_way()
        chance, at = random.Random(3), 10
        for _ in range(80):
            action = chance.choice(["undo", "redo"])
            if at == (0 if action == "undo" else 10):
                self.refused(ledger, action)
            else:
                getattr(ledger, action)()
                at += -1 if action == "undo" else 1
            self.assertEqual(parts(ledger), found[at])

    def test_a_new_change_forgets_what_was_undone(self):
        for many in range(1, 11):
            ledger, found = self.changed_in_every_way()
            for _ in range(many):
                ledger.undo()
            ledger.set_costs(5, 5)
            self.refused(ledger, "redo")
            self.assertEqual(history(ledger)[0][:-1], found[:11 - many])
            self.assertEqual(ledger.changes, 11 - many)
            ledger.undo()
            ledger.redo()
            self.assertEqual([ledger.shortage, ledger.changes], [5, 11 - many])

    def test_refused_changes_and_questions_forget_nothing(self):
        ledger, found = self.changed_in_every_way()
        for _ in range(6):
            ledger.undo()
        for call in [lambda: ledger.add(5), lambda: ledger.add(HELD[0]), lambda: ledger.add((9, 0, "b", "-", 1, None)),
                     lambda: ledger.withdraw(1), lambda: ledger.withdraw(7), lambda: ledger.confirm(1),
                     lambda: ledger.confirm([]), lambda: ledger.trust(7, 5), lambda: ledger.trust(1, None),
                     lambda: ledger.set_costs(0, 5), lambda: ledger.as_of(5)]:
            with self.assertRaises(StockError):
                call()
            answers(ledger)
            ledger.as_of(2)
            ledger.copied()
            self.assertEqual(parts(ledger), found[4])
        self.assertEqual(history(ledger), (found, 4))


class AsOfTest(unittest.TestCase):

    def test_every_number_of_changes(self):
        ledger = filled(MONTH)
        ledger.set_costs(3, 4)
        ledger.withdraw(1)
        for number in range(len(MONTH) + 1):
            self.alone(ledger.as_of(number), MONTH[:number], 10, 10)
        self.alone(ledger.as_of(9), MONTH, 3, 4)
        self.alone(ledger.as_of(10), MONTH[:-1], 3, 4)

    def alone(self, ledger, records, shortage, surplus):
        self.assertEqual(answers(ledger), plain_answers(records, shortage, surplus))
        self.assertEqual(ledger.changes, 0)
        for step in (ledger.undo, ledger.redo):
            with self.assertRaises(NothingToDo):
                step()

    def test_wrong_numbers(self):
        ledger = with_history()
        kept = history(ledger)
        for number in any_values() + [None, 5, 6, 7, 10**6, "1", (1,), [0], {0: 0}]:
            with self.assertRaises(BadNumber) as caught:
                ledger.as_of(number)
            self.assertIs(caught.exception.value, number)
            with self.assertRaises(BadNumber):
                Ledger().as_of(number)
        self.assertEqual(history(ledger), kept)

    def test_undone_changes_have_no_number(self):
        ledger = filled(HELD)
        self.alone(ledger.as_of(3), HELD, 10, 10)
        ledger.undo()
        with self.assertRaises(BadNumber) as caught:
            ledger.as_of(3)
        self.assertEqual(caught.exception.value, 3)
        self.alone(ledger.as_of(2), HELD[:2], 10, 10)

    def test_shares_nothing(self):
        ledger = with_history()
        kept = history(ledger), answers(ledger)
        for number in range(ledger.changes + 1):
            other = ledger.as_of(number)
            other.set_costs(1, 1)
            other.add((77, 7, "c", 7, 7))
            other.undo()
            other.undo()
        self.assertEqual((history(ledger), answers(ledger)), kept)


class MadeTest(unittest.TestCase):

    def test_in_any_sequence(self):
        for mixed in orders(MONTH):
            given = list(mixed)
            ledger = Ledger.made(3, 4, given)
            self.assertEqual(given, mixed)
            self.assertEqual(answers(ledger), plain_answers(MONTH, 3, 4))
            self.assertEqual(history(ledger)[1], 0)
            self.assertEqual(len(history(ledger)[0]), 1)

    def test_what_is_handed_to_it_stays_the_callers(self):
        given = list(MONTH)
        ledger = Ledger.made(10, 10, given)
        given.clear()
        self.assertEqual(answers(ledger), plain_answers(MONTH))
        given.append(HELD[0])
        ledger.withdraw(9)
        ledger.add((99, 9, "van", 4, 1))
        self.assertEqual(given, [HELD[0]])

    def test_without_records(self):
        self.assertEqual(answers(Ledger.made(1, 1000, [])), plain_answers([], 1, 1000))

    def test_off_an_object(self):
        self.assertEqual(answers(filled(HELD).made(3, 4, MONTH)), plain_answers(MONTH, 3, 4))

    def test_may_be_changed(self):
        ledger = Ledger.made(3, 4, HELD)
        ledger.set_costs(5, 6)
        ledger.withdraw(3)
        self.assertEqual([ledger.changes, ledger.records, ledger.as_of(0).records], [2, HELD[:2], HELD])
        ledger.undo()
        ledger.undo()
        self.assertEqual(answers(ledger), plain_answers(HELD, 3, 4))

    def test_full_ledgers(self):
        records = [(ident, 0, "a", 1, 1) for ident in range(1, 41)]
        with self.assertRaises(TooMany) as caught:
            Ledger.made(1, 1, records).add((41, 0, "a", 1, 1))
        self.assertEqual(caught.exception.count, 41)


class CopiedTest(unittest.TestCase):

    def test_copies(self):
        for ledger in (Ledger(), filled(MONTH), with_history(), Ledger.made(1, 1000, HELD)):
            kept = history(ledger), answers(ledger)
            copy = ledger.copied()
            self.assertIsNot(copy, ledger)
            self.assertEqual([answers(copy), copy.changes], [answers(ledger), 0])
            for step in (copy.undo, copy.redo):
                with self.assertRaises(NothingToDo):
                    step()
            copy.set_costs(2, 2)
            copy.add((77, 7, "c", 7, 7))
            copy.undo()
            self.assertEqual((history(ledger), answers(ledger)), kept)

    def test_the_ledger_changes_afterwards(self):
        ledger = filled(HELD)
        copy = ledger.copied()
        ledger.withdraw(3)
        ledger.set_costs(1, 1)
        self.assertEqual(answers(copy), plain_answers(HELD))

    def test_same(self):
        ledger = filled(HELD)
        for other in (ledger, ledger.copied(), Ledger.made(10, 10, HELD[::-1]), ledger.as_of(3)):
            self.assertIs(ledger.same(other), True)
            self.assertIs(other.same(ledger), True)
        heavier = [HELD[0], HELD[1], (3, 2, "b", 3, 5)]
        for other in (Ledger(), ledger.as_of(2), Ledger.made(11, 10, HELD), Ledger.made(10, 11, HELD),
                      Ledger.made(10, 10, heavier), Ledger.made(10, 10, HELD + [(4, 3, "b", 3, 4)])):
            self.assertIs(ledger.same(other), False)
            self.assertIs(other.same(ledger), False)
        self.assertIs(Ledger().same(Ledger()), True)


class WaysTest(unittest.TestCase):

    def test_different_ways(self):
        plain = Ledger.made(3, 4, HELD)
        winding = Ledger(shortage=4, surplus=3)
        for record in ((50, 3, "b", "c", 2, 1), HELD[2], (1, 5, "b", 3, 4), HELD[1][:-1] + (9,)):
            winding.add(record)
        winding.withdraw(1)
        winding.add(HELD[0])
        winding.confirm(2)
        for refused in (lambda: winding.confirm(1), lambda: winding.withdraw(1), lambda: winding.add(HELD[0])):
            with self.assertRaises(StockError):
                refused()
        winding.trust(3, 1)
        winding.undo()
        winding.withdraw(50)
        winding.set_costs(3, 4)
        winding.set_costs(7, 7)
        winding.undo()
        self.assertEqual(answers(winding), answers(plain))
        self.assertIs(winding.same(plain), True)
        for record in ((9, 0, "b", "-", 1, None), (9, 1, "b", "-", 4, None)):
            told = []
            for ledger in (winding, plain):
                with self.assertRaises(Contradiction) as caught:
                    ledger.add(record)
                told.append(caught.exception.prices)
            self.assertEqual(told[0], told[1])


class Model:
    """A ledger by the words of the document, with a plain search for the least stories."""

    def __init__(self, ledger):
        self.stages = [(ledger.records, ledger.shortage, ledger.surplus)]
        self.at = 0

    def now(self):
        return self.stages[self.at]

    def changed(self, records, shortage, surplus):
        if Search(records, shortage, surplus).weight is None:
            return Contradiction
        self.stages = self.stages[:self.at + 1] + [(sorted(records, key=lambda row: row[1::-1]), shortage, surplus)]
        self.at += 1

    def add(self, record):
        records, shortage, surplus = self.now()
        if record[-1] == 0:
            return BadRecord
        if record[0] in [row[0] for row in records]:
            return TakenId
        return self.changed(records + [record], shortage, surplus)

    def other_weight(self, ident, weights):
        records, shortage, surplus = self.now()
        if ident not in [row[0] for row in records]:
            return UnknownId
        if 0 in weights:
            return BadRecord
        kept = [row for row in records if row[0] != ident]
        again = [row[:-1] + (weight,) for row in records if row[0] == ident for weight in weights]
        return self.changed(kept + again, shortage, surplus)

    def withdraw(self, ident):
        return self.other_weight(ident, [])

    def confirm(self, ident):
        return self.other_weight(ident, [None])

    def trust(self, ident, weight):
        return self.other_weight(ident, [weight])

    def set_costs(self, shortage, surplus):
        if shortage == 0 or surplus == 0:
            return BadCost
        return self.changed(self.now()[0], shortage, surplus)

    def undo(self):
        if self.at == 0:
            return NothingToDo
        self.at -= 1

    def redo(self):
        if self.at + 1 == len(self.stages):
            return NothingToDo
        self.at += 1


class RandomChangesTest(unittest.TestCase):

    def random_change(self, chance):
        name = chance.choice(["add"] * 3 + ["withdraw", "confirm", "trust", "set_costs", "undo", "undo", "redo"])
        if name == "add":
            ends = chance.sample("-ab", 2)
            weight = chance.choice([0, 1, 2, 3, None, None])
            head = (chance.randint(1, 6), chance.randint(0, 3))
            if chance.random() < 0.5:
                return name, [head + (*ends, chance.randint(0, 2), weight)]
            return name, [head + (chance.choice("ab"), chance.randint(0, 2), weight)]
        if name in ("withdraw", "confirm"):
            return name, [chance.randint(1, 7)]
        if name == "trust":
            return name, [chance.randint(1, 7), chance.randint(0, 3)]
        return name, [chance.choice([0, 1, 2, 10]), chance.choice([1, 2, 10])] if name == "set_costs" else []

    def test_like_the_model(self):
        seen = {}
        for seed in range(25):
            chance = random.Random(seed)
            ledger = Ledger()
            model = Model(ledger)
            for _ in range(40):
                name, given = self.random_change(chance)
                if name == "add" and len(ledger.records) == 5:
                    continue
                expected = getattr(model, name)(*given)
                try:
                    getattr(ledger, name)(*given)
                    raised = None
                except StockError as error:
                    raised = type(error)
                self.assertEqual(raised, expected, (seed, name, given))
                seen[name, raised] = seen.get((name, raised), 0) + 1
                self.assertEqual((ledger.records, ledger.shortage, ledger.surplus), model.now())
                self.assertEqual([ledger.changes, ledger.weight], [model.at, Search(*model.now()).weight])
            stages, at = history(ledger)
            self.assertEqual([stage[:3] for stage in stages], model.stages)
            self.assertEqual(at, model.at)
            self.assertEqual(answers(ledger), plain_answers(*model.now()))
        for case in [("add", None), ("add", BadRecord), ("add", TakenId), ("add", Contradiction), ("withdraw", None),
                     ("withdraw", UnknownId), ("withdraw", Contradiction), ("confirm", None), ("confirm", UnknownId),
                     ("confirm", Contradiction), ("trust", None), ("trust", UnknownId), ("trust", BadRecord),
                     ("set_costs", None), ("set_costs", BadCost), ("undo", None), ("undo", NothingToDo),
                     ("redo", None), ("redo", NothingToDo)]:
            self.assertGreater(seen.get(case, 0), 0, case)


if __name__ == "__main__":
    unittest.main()
