"""Prices: what they are, right ones, gains, shares, bounds, and what they show."""

import copy
import inspect
import random
import unittest

from plain_search import ends_of_stretches, plain_bound, plain_gain, plain_share, plainly_contradicts, plainly_right
from sample_records import CONTRADICTIONS, COSTS, MONTH, PAIR, orders, small_samples
from sample_values import any_values, nested
from stockcounts import prices as module
from stockcounts.best import best_prices, best_story
from stockcounts.errors import Contradiction
from stockcounts.prices import (
    are_prices, are_right, blamed, bound, gain, is_certificate, share, shows_contradiction, surely_right)

NAMES = ["are_prices", "are_right", "gain", "share", "bound", "is_certificate", "shows_contradiction",
         "blamed", "surely_right"]

PAIR_PRICES = {"shelf": [0, -2, 0]}
MONTH_PRICES = {"shelf": [4, 3, 2, 7, 1, 0], "van": [-3, 5, 2, 6], "shop": [0, 9, 8]}

NO_LISTS = [None, True, 0, -2, "", "0 -2 0", (), (0, -2, 0), {}, {0: 0, 1: -2, 2: 0}]
NO_INTEGERS = [True, False, None, "0", "", (), (0,), [], [0], {}, {0: 0}]


def deep_values():
    return [nested(depth, kind) for depth in (1, 2, 29, 30) for kind in ("list", "tuple", "dict")]


def random_prices(records, chance, least=-4, greatest=6):
    lengths = {}
    for record in records:
        for place in set(record[2:len(record) - 2]) - {"-"}:
            lengths[place] = lengths.get(place, 1) + 1
    return {place: [chance.randint(least, greatest) for _ in range(lengths[place])] for place in lengths}


def one_number_changed(prices, step):
    for place in prices:
        for at in range(len(prices[place])):
            changed = copy.deepcopy(prices)
            changed[place][at] += step
            yield changed


class ArePricesTest(unittest.TestCase):

    def says(self, expected, records, values):
        for value in values:
            with self.subTest(value=repr(value)[:80]):
                self.assertIs(are_prices(records, value), expected)
                if not expected:
                    self.assertIs(are_right(records, value, **COSTS), False)
                    self.assertIs(shows_contradiction(records, value), False)
                    story = {record[0]: 0 for record in records}
                    self.assertIs(is_certificate(records, story, value, **COSTS), False)

    def test_prices(self):
        self.says(True, PAIR, [PAIR_PRICES, {"shelf": [0, 0, 0]}, {"shelf": [10**60, -10**60, 10**400]}])
        for mixed in orders(MONTH):
            self.says(True, mixed, [MONTH_PRICES, dict(reversed(list(MONTH_PRICES.items())))])

    def test_places(self):
        self.says(False, PAIR, [{}, {"van": [0, -2, 0]}, {"shelf": [0, -2, 0], "van": []}, {"-": [0, -2, 0]}])
        self.says(False, PAIR, [{"shelf": [0, -2, 0], "-": [0]}, {"shelf": [0, -2, 0], "van": [0]}])
        for place in MONTH_PRICES:
            fewer = {other: MONTH_PRICES[other] for other in MONTH_PRICES if other != place}
            self.says(False, MONTH, [fewer, {**fewer, "-": MONTH_PRICES[place]}, {**fewer, "hall": MONTH_PRICES[place]}])
            self.says(False, MONTH, [{**fewer, key: MONTH_PRICES[place]} for key in (None, 1, True, (place,), ())])
        self.says(False, MONTH, [{**MONTH_PRICES, "-": [0]}, {**MONTH_PRICES, "hall": [0]}, {**MONTH_PRICES, 1: [0]}])
        self.says(False, PAIR, [{nested(29, "tuple"): [0, -2, 0]}, {"shelf": [0, -2, 0], nested(29, "tuple"): 1}])

    def test_lengths(self):
        self.says(False, PAIR, [{"shelf": row} for row in ([], [0], [0, 0], [0, 0, 0, 0])])
        for place in MONTH_PRICES:
            row = MONTH_PRICES[place]
            self.says(False, MONTH, [{**MONTH_PRICES, place: other} for other in (row[1:], row[:-1], row + [0], [])])

    def test_exchanged_rows(self):
        exchanged = dict(zip(MONTH_PRICES, list(MONTH_PRICES.values())[1:] + [MONTH_PRICES["shelf"]]))
        self.says(False, MONTH, [exchanged])

    def test_rows_are_lists(self):
        self.says(False, PAIR, [{"shelf": row} for row in NO_LISTS + deep_values()])
        self.says(False, MONTH, [{**MONTH_PRICES, "shop": (0, 9, 8)}])

    def test_prices_are_integers(self):
        for part in NO_INTEGERS + deep_values():
            self.says(False, PAIR, [{"shelf": [part, -2, 0]}, {"shelf": [0, part, 0]}, {"shelf": [0, -2, part]}])

    def test_other_values(self):
        self.says(False, PAIR, any_values() + [None, [PAIR_PRICES], (PAIR_PRICES,), "shelf", ["shelf"], PAIR])
        self.says(False, PAIR, [list(PAIR_PRICES.items()), [0, -2, 0]])

    def test_without_records(self):
        self.says(True, [], [{}])
        self.says(False, [], [None, False, 0, "", (), [], {"shelf": [0]}, {"-": []}, {"-": [0]}, {1: 1}])
        self.assertIs(are_right([], {}, **COSTS), True)
        self.assertIs(shows_contradiction([], {}), False)
        self.assertIs(is_certificate([], {}, {}, **COSTS), True)


class AreRightTest(unittest.TestCase):

    def says(self, expected, records, values, shortage=10, surplus=10):
        for mixed in orders(records):
            for value in values:
                with self.subTest(records=mixed, value=value):
                    self.assertIs(are_prices(mixed, value), True)
                    self.assertIs(are_right(mixed, value, shortage=shortage, surplus=surplus), expected)

    def test_goods_that_stay_at_a_move(self):
        for weight in (None, 5):
            moved = [(1, 0, "a", "b", 5, weight)]
            self.says(True, moved, [{"a": [1, 1], "b": [0, 0]}, {"a": [1, 0], "b": [2, 1]}])
            self.says(False, moved, [{"a": [1, 2], "b": [0, 0]}, {"a": [1, 1], "b": [0, 1]}])
            self.says(True, [(1, 0, "-", "a", 5, weight), (2, 1, "a", "-", 5, weight)], [{"a": [2, 2, 2]}])
            self.says(False, [(1, 0, "-", "a", 5, weight), (2, 1, "a", "-", 5, weight)], [{"a": [1, 2, 2]},
                                                                                        {"a": [2, 2, 3]}])

    def test_gain_of_a_move(self):
        self.says(True, [(1, 0, "a", "b", 5, 3)], [{"a": [2, 0], "b": [5, 5]}, {"a": [2, 1], "b": [9, 4]}])
        self.says(False, [(1, 0, "a", "b", 5, 3)], [{"a": [2, 0], "b": [6, 6]}])
        self.says(True, [(1, 0, "a", "b", 5, None)], [{"a": [2, 0], "b": [6, 6]}, {"a": [0, 0], "b": [999, 999]}])

    def test_gain_of_a_move_from_outside(self):
        self.says(True, [(1, 0, "-", "a", 5, 3)], [{"a": [3, 3]}, {"a": [99, 3]}])
        self.says(False, [(1, 0, "-", "a", 5, 3)], [{"a": [4, 4]}, {"a": [99, 4]}])
        self.says(True, [(1, 0, "-", "a", 5, None)], [{"a": [4, 4]}])

    def test_gain_of_a_move_to_outside(self):
        moved = [(1, 0, "a", "-", 5, 3), (2, 1, "a", 0, None)]
        self.says(True, moved, [{"a": [-3, -3, 0]}, {"a": [-3, -9, 0]}])
        self.says(False, moved, [{"a": [-4, -4, 0]}])
        self.says(True, [(1, 0, "a", "-", 5, None), (2, 1, "a", 0, None)], [{"a": [-4, -4, 0]}])

    def test_missing_goods(self):
        for shortage in (1, 10, 1000):
            for weight in (None, 1000):
                counted = [(1, 0, "a", 5, weight)]
                self.says(True, counted, [{"a": [-shortage, 0]}, {"a": [0, 0]}], shortage=shortage)
                self.says(False, counted, [{"a": [-shortage - 1, 0]}], shortage=shortage)

    def test_gain_of_a_count(self):
        counted = [(1, 0, "a", 5, 2)]
        self.says(True, counted, [{"a": [3, 5]}, {"a": [3, 0]}, {"a": [9, 11]}, {"a": [10, 12]}, {"a": [99, 12]}])
        self.says(False, counted, [{"a": [3, 6]}, {"a": [9, 12]}, {"a": [10, 13]}, {"a": [99, 13]}])
        self.says(True, counted, [{"a": [99, 22]}], surplus=20)
        self.says(False, counted, [{"a": [99, 23]}], surplus=20)
        self.says(True, [(1, 0, "a", 5, None)], [{"a": [3, 6]}, {"a": [99, 13]}, {"a": [-10, 999]}])

    def test_last_prices(self):
        for weight in (None, 1):
            self.says(True, [(1, 0, "a", 5, weight)], [{"a": [0, 0]}])
            self.says(False, [(1, 0, "a", 5, weight)], [{"a": [0, -1]}])
            self.says(True, [(1, 0, "a", "b", 5, weight)], [{"a": [0, 0], "b": [0, 0]}])
            self.says(False, [(1, 0, "a", "b", 5, weight)], [{"a": [0, -1], "b": [0, 0]},
                                                             {"a": [0, 0], "b": [0, -1]}])

    def test_a_count_lets_the_price_rise_where_a_move_does_not(self):
        self.says(True, [(1, 0, "a", 5, 2)], [{"a": [0, 2]}])
        self.says(False, [(1, 0, "a", "-", 5, 2)], [{"a": [0, 2]}])

    def test_records_of_the_same_time_go_by_ids(self):
        self.says(True, [(1, 0, "a", "-", 1, 9), (2, 0, "a", 5, 2)], [{"a": [0, 0, 2]}])
        self.says(False, [(2, 0, "a", "-", 1, 9), (1, 0, "a", 5, 2)], [{"a": [0, 0, 2]}])

    def test_weight_of_nothing(self):
        # With these right prices show a contradiction; such a record is not a sure one.
        self.says(True, [(1, 0, "-", "a", 5, 0)], [{"a": [0, 0]}, {"a": [1, 0]}], 0, 0)
        self.says(False, [(1, 0, "-", "a", 5, 0)], [{"a": [1, 1]}], 0, 0)
        self.says(False, [(1, 0, "a", 5, 0)], [{"a": [1, 1]}, {"a": [-1, 0]}], 0, 0)

    def test_like_the_plain_way(self):
        chance = random.Random(23)
        answers = []
        for records, costs in small_samples(5, 300, most=3):
            for _ in range(5):
                prices = random_prices(records, chance, -1, 2)
                answers.append(are_right(records, prices, **costs))
                self.assertIs(answers[-1], plainly_right(records, prices, **costs))
        self.assertGreater(answers.count(True), 100)
        self.assertGreater(answers.count(False), 100)

    def test_near_the_best_prices_like_the_plain_way(self):
        answers = []
        for records, costs in small_samples(6, 120):
            try:
                prices = best_prices(records, **costs)
            except Contradiction:
                continue
            for step in (-1, 1, -3, 3):
                for changed in one_number_changed(prices, step):
                    answers.append(are_right(records, changed, **costs))
                    self.assertIs(answers[-1], plainly_right(records, changed, **costs))
        self.assertGreater(answers.count(True), 100)
        self.assertGreater(answers.count(False), 100)

    def test_always_a_bool(self):
        for value in any_values() + deep_values() + [None, PAIR_PRICES, {"shelf": [0, 99, 0]}]:
            self.assertIs(type(are_prices(PAIR, value)), bool)
            self.assertIs(type(are_right(PAIR, value, **COSTS)), bool)


class GainsTest(unittest.TestCase):

    def test_examples(self):
        self.assertEqual(bound(PAIR, {'shelf': [0, -2, 0]}, surplus=10), 2)
        self.assertIs(is_certificate(PAIR, {1: 5, 2: 5}, {'shelf': [0, -2, 0]}, shortage=10, surplus=10), True)

    def test_each_stands_in_its_file(self):
        for name in NAMES:
            self.assertEqual(getattr(module, name).__module__, "stockcounts.prices")

    def test_gains(self):
        expected = {
            11: 3 - 0,            # from outside: the price of the shelf behind it
            4: 5 - 3,             # the van behind it less the shelf before it
            7: 7 - 2,             # the shelf behind the count less the shelf before it
            2: 0 - 5,             # to outside: 0 less the price of the van before it
            15: 6 - 2,
            3: 1 - 4,             # the cost of found units, 4, is the lesser one
            9: 9 - 1,
            1: 8 - 4,
        }
        for mixed in orders(MONTH):
            gains = {record[0]: gain(mixed, MONTH_PRICES, record[0], surplus=4) for record in MONTH}
            self.assertEqual(gains, expected)

    def test_shares(self):
        expected = {11: -3 * 9, 4: -2 * 3, 7: -5 * 4, 2: 2 * 5, 15: -4 * 0, 3: 3 * 6, 9: -8 * 2, 1: -4 * 1}
        for mixed in orders(MONTH):
            shares = {record[0]: share(mixed, MONTH_PRICES, record[0], surplus=4) for record in MONTH}
            self.assertEqual(shares, expected)
            self.assertEqual(bound(mixed, MONTH_PRICES, surplus=4), sum(expected.values()))

    def test_cost_of_found_units(self):
        counted = [(1, 0, "a", 5, 100)]
        told = [gain(counted, {"a": [before, 3]}, 1, surplus=4) for before in (-9, 3, 4, 5, 10**60)]
        self.assertEqual(told, [12, 0, -1, -1, -1])
        self.assertEqual(gain(counted, {"a": [5, 3]}, 1, surplus=0), 3)

    def test_gain_of_just_the_weight_with_the_sign_turned(self):
        for weight, share_below in ((7, 35), (None, 40)):
            move = [(1, 0, "a", "-", 5, weight)]
            told = [share(move, {"a": [price, 0]}, 1, surplus=10) for price in (6, 7, 8, -7, -8)]
            self.assertEqual(told, [30, 35, share_below, -35, -40])
            count = [(1, 0, "a", 5, weight)]
            told = [share(count, {"a": [price, 0]}, 1, surplus=10) for price in (6, 7, 8, -7, -8)]
            self.assertEqual(told, [30, 35, share_below, -35, -40])
            self.assertEqual([bound(count, {"a": [price, 0]}, surplus=10) for price in (6, 7, 8)], [30, 35, share_below])

    def test_written_amount_of_nothing(self):
        for weight in (7, None):
            for price in (-99, -7, 0, 7, 99):
                self.assertEqual(share([(1, 0, "a", "-", 0, weight)], {"a": [price, 0]}, 1, surplus=10), 0)

    def test_great_numbers(self):
        self.assertEqual(gain(PAIR, {"shelf": [0, 10**59, 3]}, 1, surplus=10), 10**59)
        self.assertEqual(share(PAIR, {"shelf": [0, 10**59, 3]}, 1, surplus=10), -5 * 10**59)
        self.assertEqual(share(PAIR, {"shelf": [0, -10**59, 3]}, 1, surplus=10), 15)

    def test_bound_without_records(self):
        self.assertEqual(bound([], {}, surplus=10), 0)

    def test_like_the_plain_way(self):
        chance = random.Random(29)
        for records, costs in small_samples(8, 200):
            prices, surplus = random_prices(records, chance), costs["surplus"]
            ends = ends_of_stretches(records, prices)
            for record in records:
                self.assertEqual(gain(records, prices, record[0], surplus=surplus), plain_gain(record, ends, surplus))
                self.assertEqual(share(records, prices, record[0], surplus=surplus), plain_share(record, ends, surplus))
            self.assertEqual(bound(records, prices, surplus=surplus), plain_bound(records, prices, surplus))

    def test_after_the_list_was_changed_in_place(self):
        records, prices = list(PAIR), {"shelf": [0, -2, 0]}
        self.assertEqual([gain(records, prices, 1, surplus=10), bound(records, prices, surplus=10)], [-2, 2])
        records[0] = (1, 2, "-", "shelf", 7, 1)
        self.assertEqual([gain(records, prices, 1, surplus=10), gain(records, prices, 2, surplus=10)], [0, -2])
        self.assertEqual([share(records, prices, 2, surplus=10), bound(records, prices, surplus=10)], [8, 8])
        prices["shelf"][2] = 1
        self.assertEqual(gain(records, prices, 1, surplus=10), 1)
        self.assertEqual([share(records, prices, 1, surplus=10), bound(records, prices, surplus=10)], [-7, 1])
        del records[1]
        prices["shelf"] = [0, 1]
        self.assertEqual(bound(records, prices, surplus=10), -7)


class CertificateTest(unittest.TestCase):

    def test_best_prices_and_these_with_one_number_changed(self):
        answers = []
        for records, costs in small_samples(9, 120):
            try:
                story, prices = best_story(records, **costs), best_prices(records, **costs)
            except Contradiction:
                continue
            self.assertIs(is_certificate(records, story, prices, **costs), True)
            self.assertIs(is_certificate(records[::-1], story, prices, **costs), True)
            weight = plain_bound(records, prices, costs["surplus"])
            for step in (-1, 1, -50, 50):
                for changed in one_number_changed(prices, step):
                    holds = (plainly_right(records, changed, **costs)
                             and plain_bound(records, changed, costs["surplus"]) == weight)
                    answers.append(is_certificate(records, story, changed, **costs))
                    self.assertIs(answers[-1], holds)
        self.assertGreater(answers.count(True), 50)
        self.assertGreater(answers.count(False), 500)

    def test_a_story_that_weighs_more(self):
        for story in ({1: 5, 2: 4}, {1: 4, 2: 4}, {1: 6, 2: 6}, {1: 5, 2: 6}):
            self.assertIs(is_certificate(PAIR, story, PAIR_PRICES, **COSTS), False)
        self.assertIs(is_certificate(PAIR, {2: 5, 1: 5}, PAIR_PRICES, **COSTS), True)

    def test_right_prices_with_a_lower_bound(self):
        self.assertIs(are_right(PAIR, {"shelf": [0, -1, 0]}, **COSTS), True)
        self.assertIs(is_certificate(PAIR, {1: 5, 2: 5}, {"shelf": [0, -1, 0]}, **COSTS), False)

    def test_prices_of_that_bound_which_are_not_right(self):
        self.assertEqual(bound(PAIR, {"shelf": [-99, -2, 0]}, surplus=10), 2)
        self.assertIs(is_certificate(PAIR, {1: 5, 2: 5}, {"shelf": [-99, -2, 0]}, **COSTS), False)
        self.assertIs(is_certificate(PAIR, {1: 5, 2: 5}, PAIR_PRICES, shortage=2, surplus=10), True)
        self.assertIs(is_certificate(PAIR, {1: 5, 2: 5}, PAIR_PRICES, shortage=1, surplus=10), False)

    def test_other_values(self):
        for value in any_values() + deep_values() + [None, [0, -2, 0], {"shelf": (0, -2, 0)}, {"shelf": [0, -2, False]}]:
            self.assertIs(is_certificate(PAIR, {1: 5, 2: 5}, value, **COSTS), False)


class ContradictionTest(unittest.TestCase):

    def test_prices_that_show_it(self):
        # Nothing is there at the beginning, and yet 6 go away for sure.
        records = [(1, 0, "-", "a", 5, None), (2, 1, "a", "b", 6, None), (3, 2, "b", "-", 1, 4)]
        for mixed in orders(records):
            self.assertIs(shows_contradiction(mixed, {"a": [1, 1, 0], "b": [0, 0, 0]}), True)
            self.assertIs(shows_contradiction(mixed, {"a": [7, 7, 0], "b": [0, 0, 0]}), True)
            self.assertIs(shows_contradiction(mixed, {"a": [0, 0, 0], "b": [0, 0, 0]}), False)
            self.assertIs(shows_contradiction(mixed, {"a": [1, 1, -1], "b": [0, 0, 0]}), False)
            self.assertIs(shows_contradiction(mixed, {"a": [0, 1, 0], "b": [0, 0, 0]}), False)
            self.assertIs(shows_contradiction(mixed, {"a": [1, 1, 1], "b": [1, 1, 1]}), False)

    def test_a_bound_of_nothing_shows_nothing(self):
        records = [(1, 0, "-", "a", 5, None), (2, 1, "a", "-", 5, None)]
        self.assertIs(are_right(records, {"a": [1, 1, 0]}, shortage=0, surplus=0), True)
        self.assertIs(shows_contradiction(records, {"a": [1, 1, 0]}), False)
        records = [(1, 0, "-", "a", 5, None), (2, 1, "a", "-", 6, None)]
        self.assertIs(shows_contradiction(records, {"a": [1, 1, 0]}), True)

    def test_weights_and_costs_are_nothing(self):
        # These are right and bound something, but only with the weights and the costs.
        self.assertIs(are_right(PAIR, PAIR_PRICES, **COSTS), True)
        self.assertIs(shows_contradiction(PAIR, PAIR_PRICES), False)
        counted = [(1, 0, "a", 3, None), (2, 1, "a", "-", 4, None)]
        self.assertIs(shows_contradiction(counted, {"a": [0, 1, 0]}), True)
        self.assertIs(shows_contradiction(counted, {"a": [5, 1, 0]}), True)
        for prices in ({"a": [0, 1, 0]}, {"a": [1, 1, 0]}):
            self.assertIs(shows_contradiction([(1, 0, "a", 3, 1000), (2, 1, "a", "-", 4, None)], prices), False)
        missing = [(1, 0, "-", "a", 9, None), (2, 1, "a", 3, None)]
        self.assertIs(are_right(missing, {"a": [-1, -1, 0]}, **COSTS), True)
        self.assertIs(shows_contradiction(missing, {"a": [-1, -1, 0]}), False)

    def test_like_the_plain_way(self):
        chance = random.Random(31)
        answers = []
        samples = small_samples(10, 200, most=3) + [(records, {}) for records in CONTRADICTIONS * 5]
        for records, _ in samples:
            for _ in range(6):
                prices = random_prices(records, chance, 0, 2)
                answers.append(shows_contradiction(records, prices))
                self.assertIs(answers[-1], plainly_contradicts(records, prices))
        self.assertGreater(answers.count(True), 20)

    def test_other_values(self):
        for value in any_values() + deep_values() + [None, {"a": (1, 0)}, {"a": [1, False]}, {"a": [True, 0]}]:
            self.assertIs(shows_contradiction([(1, 0, "a", "-", 1, None)], value), False)
        self.assertIs(shows_contradiction([(1, 0, "a", "-", 1, None)], {"a": [1, 0]}), True)

    def test_blamed(self):
        # The cost of found units is 0: so the gain of a count is never measured against a greater price.
        records = [(5, 0, "a", 4, None), (3, 1, "a", "-", 4, None), (9, 1, "a", "b", 1, None), (1, 2, "b", 2, None),
                   (2, 3, "b", "-", 7, 6)]
        for mixed in orders(records):
            self.assertEqual(list(blamed(mixed, {"a": [0, 1, 1, 0], "b": [0, 0, 0, 0]})), [5, 3, 9])
            self.assertEqual(list(blamed(mixed, {"a": [9, 0, 0, 0], "b": [5, 5, 0, 9]})), [9])
            self.assertEqual(list(blamed(mixed, {"a": [-1, 0, 0, 0], "b": [0, 0, -1, 0]})), [5, 1])
            self.assertEqual(list(blamed(mixed, {"a": [0, 0, 0, 0], "b": [0, 0, 0, 0]})), [])
            self.assertEqual(list(blamed(mixed, {"a": [0, 7, 7, 7], "b": [9, 9, 1, 5]})), [5, 3, 9, 1])
        self.assertEqual(list(blamed([], {})), [])


class SurelyRightTest(unittest.TestCase):

    def test_gains_of_just_the_weight(self):
        for weight, expected in ((7, [[], [], [1], [1], [1], [], []]), (None, [[]] * 7)):
            for record in [(1, 0, "a", "-", 5, weight), (1, 0, "a", 5, weight)]:
                told = [list(surely_right([record], {"a": [price, 0]}, surplus=10)) for price in (8, 7, 6, 0, -6, -7, -8)]
                self.assertEqual(told, expected)

    def test_cost_of_found_units(self):
        count = [(1, 0, "a", 5, 7)]
        told = [list(surely_right(count, {"a": [99, 0]}, surplus=surplus)) for surplus in (0, 6, 7, 1000)]
        self.assertEqual(told, [[1], [1], [], []])

    def test_in_sequence(self):
        # The gains are 3, 2, 5, -5, 4, -3, 8 and 4.
        prices = MONTH_PRICES
        for mixed in orders(MONTH):
            self.assertEqual(list(surely_right(mixed, prices, surplus=4)), [11, 1])
            heavy = [record if record[-1] is None else record[:-1] + (9,) for record in mixed]
            self.assertEqual(list(surely_right(heavy, prices, surplus=4)), [11, 7, 2, 15, 9, 1])
        self.assertEqual(list(surely_right([], {}, surplus=4)), [])


class CallsTest(unittest.TestCase):

    def test_yield(self):
        self.assertTrue(inspect.isgenerator(blamed(MONTH, MONTH_PRICES)))
        self.assertTrue(inspect.isgenerator(surely_right(MONTH, MONTH_PRICES, surplus=4)))

    def test_caller_changes_the_arguments_while_they_yield(self):
        for rows, expected in ((blamed, [4, 3]), (lambda *given: surely_right(*given, surplus=4), [11, 1])):
            records, prices, found = list(MONTH), copy.deepcopy(MONTH_PRICES), []
            for ident in rows(records, prices):
                found.append(ident)
                records.clear()
                prices.clear()
            self.assertEqual(found, expected)

    def test_arguments_stay(self):
        records, prices, story = MONTH[::-1], copy.deepcopy(MONTH_PRICES), {record[0]: record[-2] for record in MONTH}
        are_prices(records, prices)
        are_right(records, prices, **COSTS)
        gain(records, prices, 3, surplus=4)
        share(records, prices, 3, surplus=4)
        bound(records, prices, surplus=4)
        is_certificate(records, story, prices, **COSTS)
        shows_contradiction(records, prices)
        list(blamed(records, prices))
        list(surely_right(records, prices, surplus=4))
        self.assertEqual([records, prices], [MONTH[::-1], MONTH_PRICES])
        self.assertEqual(story, {record[0]: record[-2] for record in MONTH})

    def test_by_name(self):
        self.assertIs(are_prices(value=PAIR_PRICES, records=PAIR), True)
        self.assertIs(are_right(surplus=10, shortage=2, value=PAIR_PRICES, records=PAIR), True)
        self.assertIs(are_right(surplus=10, shortage=1, value=PAIR_PRICES, records=PAIR), False)
        self.assertEqual(gain(surplus=10, ident=2, prices=PAIR_PRICES, records=PAIR), 2)
        self.assertEqual(share(surplus=10, ident=2, prices=PAIR_PRICES, records=PAIR), -8)
        self.assertEqual(bound(surplus=10, prices=PAIR_PRICES, records=PAIR), 2)
        self.assertIs(is_certificate(surplus=10, shortage=2, value=PAIR_PRICES, story={1: 5, 2: 5}, records=PAIR), True)
        self.assertIs(shows_contradiction(value=PAIR_PRICES, records=PAIR), False)
        self.assertEqual(list(blamed(prices=PAIR_PRICES, records=PAIR)), [])
        self.assertEqual(list(surely_right(surplus=10, prices=PAIR_PRICES, records=PAIR)), [1])

    def test_costs_by_name_alone(self):
        for call in (lambda: are_right(PAIR, PAIR_PRICES, 10, 10), lambda: gain(PAIR, PAIR_PRICES, 1, 10),
                     lambda: share(PAIR, PAIR_PRICES, 1, 10), lambda: bound(PAIR, PAIR_PRICES, 10),
                     lambda: is_certificate(PAIR, {1: 5, 2: 5}, PAIR_PRICES, 10, 10),
                     lambda: list(surely_right(PAIR, PAIR_PRICES, 10)), lambda: bound(PAIR, PAIR_PRICES)):
            with self.assertRaises(TypeError):
                call()


if __name__ == "__main__":
    unittest.main()
