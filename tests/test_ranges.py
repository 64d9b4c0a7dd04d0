"""Ranges of records and of gaps, verdicts, and why a record does not have an amount."""

import inspect
import unittest

from plain_search import Search, plain_bound, plainly_contradicts, plainly_right
from sample_records import CHOICE, CONTRADICTIONS, COSTS, MONTH, PAIR, many_records, orders, small_samples
from sample_values import any_values, nested
from stockcounts import ranges as module
from stockcounts.best import best_story, least_weight
from stockcounts.errors import Contradiction, StockError, UnknownId
from stockcounts.prices import shows_contradiction
from stockcounts.ranges import bars, gap_range, record_range, story_with, verdict, verdicts
from stockcounts.stories import gaps, is_story, story_weight

# Each of these takes the records and an id; bars and story_with are asked for the amount 1.
BY_ID = {
    "record_range": record_range,
    "verdict": verdict,
    "gap_range": gap_range,
    "story_with": lambda records, ident, **costs: story_with(records, ident, 1, **costs),
    "bars": lambda records, ident, **costs: bars(records, ident, 1, **costs),
}

# Three goods were in the hall for sure, and five were taken; either of the two moves may be wrong.
TAKEN = [(1, 0, "-", "hall", 3, None), (2, 1, "hall", "-", 2, 1), (3, 2, "hall", "-", 3, 1)]

# Five goods were in the hall, and two are found there later; they were lost there or on the shelf.
LOST = [(1, 0, "-", "hall", 5, None), (2, 1, "hall", 4, 1), (3, 2, "hall", 2, None), (4, 3, "hall", "-", 2, None)]


def word_for(written, amounts):
    if amounts == [written]:
        return "right"
    return "open" if written in amounts else "wrong"


def ids(records):
    return [record[0] for record in records]


def fixed(records, ident, amount):
    return [record[:-2] + (amount, None) if record[0] == ident else record for record in records]


class RangesTest(unittest.TestCase):

    def test_examples(self):
        self.assertEqual([record_range(CHOICE, 1, shortage=10, surplus=10), verdict(CHOICE, 1, shortage=10, surplus=10)],
                         [(3, 5), 'open'])

    def test_each_stands_in_its_file(self):
        for name in ["record_range", "verdict", "verdicts", "story_with", "gap_range", "bars"]:
            self.assertEqual(getattr(module, name).__module__, "stockcounts.ranges")

    def test_ranges(self):
        for mixed in orders(TAKEN):
            self.assertEqual([record_range(mixed, ident, **COSTS) for ident in (1, 2, 3)], [(3, 3), (0, 2), (1, 3)])
            self.assertEqual([verdict(mixed, ident, **COSTS) for ident in (1, 2, 3)], ["right", "open", "open"])
        heavy = TAKEN[:2] + [(3, 2, "hall", "-", 3, 2)]
        for mixed in orders(heavy):
            self.assertEqual([record_range(mixed, ident, **COSTS) for ident in (1, 2, 3)], [(3, 3), (0, 0), (3, 3)])
            self.assertEqual([verdict(mixed, ident, **COSTS) for ident in (1, 2, 3)], ["right", "wrong", "right"])

    def test_amounts_beyond_those_written_down(self):
        # The six that lack came in with either of the two moves.
        records = [(1, 0, "-", "a", 1, 1), (2, 0, "-", "a", 1, 1), (3, 1, "a", "-", 8, None)]
        self.assertEqual(list(verdicts(records, **COSTS)), [(1, 1, 7, "open"), (2, 1, 7, "open"), (3, 8, 8, "right")])
        records = [(1, 0, "-", "a", 1, 1), (2, 1, "a", 9, 1), (3, 2, "a", 9, 1)]
        self.assertEqual(list(verdicts(records, **COSTS)), [(1, 9, 9, "wrong"), (2, 9, 9, "right"), (3, 9, 9, "right")])

    def test_great_amounts(self):
        records = [(1, 0, "-", "a", 10**6, 7), (2, 1, "a", 0, 7)]
        self.assertEqual(list(verdicts(records, **COSTS)), [(1, 0, 10**6, "open"), (2, 0, 10**6, "open")])
        self.assertEqual(story_with(records, 1, 123456, **COSTS), {1: 123456, 2: 123456})
        self.assertEqual(gap_range(records, 2, shortage=7, surplus=1), (-10**6, 0))

    def test_gap_ranges(self):
        costs = {"shortage": 1, "surplus": 1}
        self.assertEqual(gap_range(PAIR, 2, **COSTS), (0, 0))
        self.assertEqual(gap_range(PAIR, 2, shortage=2, surplus=10), (-1, 0))
        self.assertEqual(gap_range(PAIR, 2, shortage=1, surplus=10), (-1, -1))
        for mixed in orders(LOST):
            self.assertEqual([gap_range(mixed, ident, **costs) for ident in (2, 3)], [(-1, -1), (-2, -2)])
        # Three units are missing at the first count, or both counts are corrected by what is not.
        either = [LOST[0], (2, 1, "hall", 2, 1), (3, 2, "hall", 2, 1), LOST[3]]
        for mixed in orders(either):
            self.assertEqual([gap_range(mixed, ident, shortage=2, surplus=1) for ident in (2, 3)], [(-3, 0), (0, 0)])

    def test_found_goods(self):
        records = [(1, 0, "a", 1, 5), (2, 1, "a", 1, 5), (3, 2, "a", "-", 3, None)]
        self.assertEqual([gap_range(records, ident, shortage=3, surplus=2) for ident in (1, 2)], [(1, 1), (2, 2)])
        records = [(1, 0, "-", "a", 0, 2), (2, 1, "a", 3, None)]
        self.assertEqual(gap_range(records, 2, shortage=3, surplus=2), (0, 3))
        self.assertEqual(gap_range(records, 2, shortage=3, surplus=1), (3, 3))
        self.assertEqual(gap_range(records, 2, shortage=3, surplus=3), (0, 0))

    def test_like_a_plain_search(self):
        seen = {"right": 0, "wrong": 0, "open": 0, "gap": 0}
        for records, costs in small_samples(11, 400):
            search = Search(records, **costs)
            if search.weight is None:
                continue
            rows = []
            for record in search.records:
                ident, amounts = record[0], search.amounts_of(record[0])
                self.assertEqual(amounts, list(range(amounts[0], amounts[-1] + 1)))
                word = word_for(record[-2], amounts)
                rows.append((ident, amounts[0], amounts[-1], word))
                self.assertEqual(record_range(records, ident, **costs), (amounts[0], amounts[-1]))
                self.assertEqual(verdict(records, ident, **costs), word)
                seen[word] += 1
                if len(record) == 5:
                    told = search.gaps_of(ident)
                    self.assertEqual(told, list(range(told[0], told[-1] + 1)))
                    self.assertEqual(gap_range(records, ident, **costs), (told[0], told[-1]))
                    seen["gap"] += len(told) > 1
            self.assertEqual(list(verdicts(records, **costs)), rows)
            self.assertEqual(list(verdicts(records[::-1], **costs)), rows)
        self.assertGreater(min(seen.values()), 20)

    def test_many_records(self):
        for many, greatest in ((40, 10**6), (40, 4), (120, 10**6), (80, 2)):
            records = many_records(many, many, greatest)
            best, rows = best_story(records, **COSTS), list(verdicts(records, **COSTS))
            self.assertEqual([row[0] for row in rows], ids(sorted(records, key=lambda record: (record[1], record[0]))))
            found = dict(gaps(records, best))
            for ident, least, greatest_amount, _ in rows[::7]:
                self.assertLessEqual(least, best[ident])
                self.assertLessEqual(best[ident], greatest_amount)
                self.assertEqual(record_range(records, ident, **COSTS), (least, greatest_amount))
                for amount in {least, (least + greatest_amount) // 2, greatest_amount}:
                    story = story_with(records, ident, amount, **COSTS)
                    self.assertEqual([is_story(records, story), story[ident]], [True, amount])
                    self.assertEqual(story_weight(records, story, **COSTS), least_weight(records, **COSTS))
                self.assertIsNone(story_with(records, ident, least - 1, **COSTS))
                self.assertIsNone(story_with(records, ident, greatest_amount + 1, **COSTS))
                if ident in found:
                    low, high = gap_range(records, ident, **COSTS)
                    self.assertTrue(low <= found[ident] <= high)


class VerdictsTest(unittest.TestCase):

    def test_yields(self):
        self.assertTrue(inspect.isgenerator(verdicts(MONTH, **COSTS)))
        self.assertEqual(list(verdicts([], **COSTS)), [])
        for mixed in orders(MONTH):
            rows = list(verdicts(mixed, **COSTS))
            self.assertEqual([row[0] for row in rows], ids(MONTH))
            for row in rows:
                self.assertIs(type(row), tuple)
                self.assertEqual(row[1:3], record_range(MONTH, row[0], **COSTS))
                self.assertEqual(row[3], verdict(MONTH, row[0], **COSTS))

    def test_caller_changes_the_records_while_they_are_told(self):
        expected = list(verdicts(MONTH, **COSTS))
        records, rows = list(MONTH), []
        for row in verdicts(records, **COSTS):
            rows.append(row)
            records.clear()
        self.assertEqual(rows, expected)

    def test_raises_when_the_first_one_is_asked_for(self):
        for records in CONTRADICTIONS:
            with self.assertRaises(Contradiction) as caught:
                next(verdicts(records, **COSTS))
            self.assertTrue(plainly_contradicts(records, caught.exception.prices))


class StoryWithTest(unittest.TestCase):

    def check(self, records, ident, amount, costs, amounts, weight):
        story = story_with(records, ident, amount, **costs)
        if amount in amounts:
            self.assertIs(is_story(records, story), True)
            self.assertEqual([story[ident], story_weight(records, story, **costs)], [amount, weight])
        else:
            self.assertIsNone(story)

    def test_within_the_range_and_beyond(self):
        for mixed in orders(TAKEN):
            for ident, amounts in ((1, [3]), (2, [0, 1, 2]), (3, [1, 2, 3])):
                for amount in [-10**59, -10**6, -1, 0, 1, 2, 3, 4, 5, 10**6, 10**6 + 1, 10**59]:
                    self.check(mixed, ident, amount, COSTS, amounts, 2)

    def test_what_one_record_has_less_several_others_have_more(self):
        records = [(1, 0, "-", "hall", 4, None), (2, 1, "hall", "-", 4, 1), (3, 2, "hall", "-", 2, 1),
                   (4, 3, "hall", "-", 2, 1)]
        for mixed in orders(records):
            for amount in range(-1, 7):
                self.check(mixed, 2, amount, COSTS, [0, 1, 2, 3, 4], 4)
                self.check(mixed, 3, amount, COSTS, [0, 1, 2], 4)

    def test_like_a_plain_search(self):
        for records, costs in small_samples(12, 120):
            search = Search(records, **costs)
            if search.weight is not None:
                for ident in ids(records):
                    for amount in list(range(-1, search.most + 3)) + [10**6, 10**40, -10**40]:
                        self.check(records, ident, amount, costs, search.amounts_of(ident), search.weight)


class BarsTest(unittest.TestCase):

    def barred(self, records, ident, amount, costs, weight, prices):
        held = fixed(records, ident, amount)
        record = [record for record in records if record[0] == ident][0]
        # A plain search through great amounts would not end; prices that show a contradiction show that one is there.
        contradicts = Search(held, **costs).weight is None if amount < 20 else plainly_contradicts(held, prices)
        if contradicts:
            self.assertIs(shows_contradiction(held, prices), True)
            self.assertTrue(plainly_contradicts(held, prices))
            return "contradiction"
        self.assertTrue(plainly_right(held, prices, **costs))
        correction = record[-1] * abs(amount - record[-2])
        self.assertGreater(plain_bound(held, prices, costs["surplus"]) + correction, weight)
        return "bound"

    def test_taken(self):
        for mixed in orders(TAKEN):
            for ident, amounts in ((2, [0, 1, 2]), (3, [1, 2, 3])):
                told = []
                for amount in [0, 1, 2, 3, 4, 5, 10**6, 10**6 + 1, 10**59]:
                    prices = bars(mixed, ident, amount, **COSTS)
                    if amount in amounts:
                        self.assertIsNone(prices)
                        told.append("in")
                    else:
                        told.append(self.barred(mixed, ident, amount, COSTS, 2, prices))
                # More than the three goods cannot be taken at all.
                self.assertEqual(told[4:], ["contradiction"] * 5)
                self.assertEqual(told[:4], ["in"] * 3 + ["bound"] if ident == 2 else ["bound"] + ["in"] * 3)

    def test_a_move_from_outside_takes_any_amount(self):
        for amount in (0, 4, 6, 10**6, 10**59):
            self.assertEqual(self.barred(PAIR, 1, amount, COSTS, 2, bars(PAIR, 1, amount, **COSTS)), "bound")
        self.assertIsNone(bars(PAIR, 1, 5, **COSTS))
        for amount in (3, 4, 5):
            self.assertIsNone(bars(CHOICE, 1, amount, **COSTS))
        for amount in (2, 6):
            self.assertEqual(self.barred(CHOICE, 1, amount, COSTS, 4, bars(CHOICE, 1, amount, **COSTS)), "bound")

    def test_like_a_plain_search(self):
        told = []
        for records, costs in small_samples(13, 120, most=4):
            search = Search(records, **costs)
            if search.weight is not None:
                for record in records:
                    if record[-1] is not None:
                        amounts = search.amounts_of(record[0])
                        for amount in list(range(0, search.most + 3)) + [10**6]:
                            prices = bars(records, record[0], amount, **costs)
                            if amount in amounts:
                                self.assertIsNone(prices)
                            else:
                                told.append(self.barred(records, record[0], amount, costs, search.weight, prices))
        self.assertGreater(told.count("bound"), 50)
        self.assertGreater(told.count("contradiction"), 50)


class ErrorsTest(unittest.TestCase):

    def values(self, records):
        deep = [nested(depth, kind) for depth in (2, 30) for kind in ("list", "tuple", "dict")]
        others = [0, -1, 13, 10**6, 10**60, None, "1", "11", (1,), [1], [], {}, {1: 1}, {11: 9}, records[0], records]
        return any_values() + deep + others

    def unknown(self, function, records, value):
        with self.assertRaises(UnknownId) as caught:
            function(records, value, **COSTS)
        self.assertIs(caught.exception.ident, value)
        self.assertIsInstance(caught.exception, StockError)

    def test_unknown_ids(self):
        self.assertIn(1, ids(MONTH))
        for name in BY_ID:
            for value in self.values(MONTH):
                with self.subTest(function=name, value=repr(value)[:80]):
                    self.unknown(BY_ID[name], MONTH, value)
                    self.unknown(BY_ID[name], [], value)

    def test_gap_of_a_move(self):
        for record in MONTH:
            if len(record) == 6:
                self.unknown(gap_range, MONTH, record[0])
            else:
                self.assertEqual(len(gap_range(MONTH, record[0], **COSTS)), 2)

    def test_unknown_ids_come_ahead_of_contradictions(self):
        for records in CONTRADICTIONS:
            for name in BY_ID:
                for value in self.values(records):
                    if type(value) is not int or value not in ids(records):
                        self.unknown(BY_ID[name], records, value)
            for record in records:
                if len(record) == 6:
                    self.unknown(gap_range, records, record[0])

    def test_contradictions(self):
        for records in CONTRADICTIONS:
            for record in records:
                for name in BY_ID:
                    if name == "gap_range" and len(record) == 6:
                        continue
                    with self.assertRaises(Contradiction) as caught:
                        BY_ID[name](records, record[0], **COSTS)
                    self.assertTrue(plainly_contradicts(records, caught.exception.prices))

    def test_just_where_there_is_no_story(self):
        told = 0
        for records, costs in small_samples(14, 300, most=4):
            if Search(records, **costs).weight is None:
                told += 1
                for name in ("record_range", "verdict", "story_with", "bars"):
                    with self.assertRaises(Contradiction) as caught:
                        BY_ID[name](records, records[0][0], **costs)
                    self.assertTrue(plainly_contradicts(records, caught.exception.prices))
        self.assertGreater(told, 10)


class CallsTest(unittest.TestCase):

    def test_arguments_stay(self):
        for given in [MONTH[::-1]] + CONTRADICTIONS:
            records = list(given)
            for name in BY_ID:
                for ident in ids(given) + [99, [99]]:
                    try:
                        BY_ID[name](records, ident, **COSTS)
                    except (UnknownId, Contradiction):
                        pass
            try:
                list(verdicts(records, **COSTS))
            except Contradiction:
                pass
            self.assertEqual(records, given)

    def test_results_are_new(self):
        for call in (lambda: story_with(CHOICE, 1, 4, **COSTS), lambda: bars(PAIR, 1, 7, **COSTS)):
            first = call()
            kept = repr(first)
            for key in list(first):
                if isinstance(first[key], list):
                    first[key].append(9)
                del first[key]
            self.assertEqual(repr(call()), kept)
        self.assertIs(type(record_range(CHOICE, 1, **COSTS)), tuple)
        self.assertIs(type(gap_range(CHOICE, 2, **COSTS)), tuple)

    def test_prices_of_an_error_are_new(self):
        for name in ("record_range", "verdict", "story_with", "bars"):
            for _ in range(2):
                with self.assertRaises(Contradiction) as caught:
                    BY_ID[name](CONTRADICTIONS[0], 1, **COSTS)
                self.assertIs(shows_contradiction(CONTRADICTIONS[0], caught.exception.prices), True)
                caught.exception.prices["a"][0] = 0

    def test_by_name(self):
        self.assertEqual(record_range(surplus=10, shortage=1, ident=2, records=PAIR), (4, 4))
        self.assertEqual(verdict(surplus=10, shortage=1, ident=2, records=PAIR), "right")
        self.assertEqual(verdict(surplus=1, shortage=10, ident=2, records=PAIR), "wrong")
        self.assertEqual(list(verdicts(surplus=10, shortage=1, records=PAIR)), [(1, 5, 5, "right"), (2, 4, 4, "right")])
        self.assertEqual(story_with(surplus=10, shortage=1, amount=4, ident=2, records=PAIR), {1: 5, 2: 4})
        self.assertEqual(gap_range(surplus=10, shortage=1, ident=2, records=PAIR), (-1, -1))
        self.assertIsNone(bars(surplus=10, shortage=1, amount=4, ident=2, records=PAIR))
        self.assertIsNotNone(bars(surplus=10, shortage=1, amount=5, ident=2, records=PAIR))

    def test_costs_by_name_alone(self):
        for call in (lambda: record_range(PAIR, 1, 10, 10), lambda: verdict(PAIR, 1, 10, 10),
                     lambda: list(verdicts(PAIR, 10, 10)), lambda: story_with(PAIR, 1, 5, 10, 10),
                     lambda: gap_range(PAIR, 2, 10, 10), lambda: bars(PAIR, 1, 5, 10, 10)):
            with self.assertRaises(TypeError):
                call()


if __name__ == "__main__":
    unittest.main()
