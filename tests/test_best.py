"""The best story, the least weight, and the prices that certify it."""

import unittest

from plain_search import Search, plain_bound, plainly_contradicts, plainly_right
from sample_records import CHOICE, CONTRADICTIONS, COSTS, MONTH, PAIR, many_records, orders, small_samples
from stockcounts import best as module
from stockcounts.best import best_prices, best_story, better_story, least_weight
from stockcounts.errors import Contradiction, StockError
from stockcounts.prices import are_right, blamed, bound, is_certificate, shows_contradiction, surely_right
from stockcounts.stories import is_story, story_weight

RAISING = [best_story, best_prices, least_weight]


def reversed_keys(story):
    return dict(reversed(list(story.items())))


class BestStoryTest(unittest.TestCase):

    def test_examples(self):
        self.assertEqual([best_story(PAIR, shortage=10, surplus=10), least_weight(PAIR, shortage=10, surplus=10)],
                         [{1: 5, 2: 5}, 2])
        self.assertEqual(best_story([(1, 0, '-', 'shelf', 5, 3), (2, 1, 'shelf', 4, 2)], shortage=1, surplus=10),
                         {1: 5, 2: 4})

    def test_each_stands_in_its_file(self):
        for name in ["best_story", "better_story", "best_prices", "least_weight"]:
            self.assertEqual(getattr(module, name).__module__, "stockcounts.best")

    def test_without_records(self):
        self.assertEqual(best_story([], **COSTS), {})
        self.assertEqual(best_prices([], **COSTS), {})
        self.assertEqual(least_weight([], **COSTS), 0)
        self.assertIsNone(better_story([], {}, **COSTS))

    def test_records_that_add_up(self):
        records = [(1, 0, "-", "a", 10**6, 1), (2, 1, "a", "b", 10, 1000), (3, 2, "b", 10, None), (4, 3, "a", 999990, 5)]
        for mixed in orders(records):
            self.assertEqual(best_story(mixed, **COSTS), {1: 10**6, 2: 10, 3: 10, 4: 999990})
            self.assertEqual(least_weight(mixed, **COSTS), 0)

    def test_goods_missing(self):
        records = [(1, 0, "-", "a", 9, None), (2, 1, "a", 4, 7)]
        for shortage, amount, weight in ((1, 4, 5), (6, 4, 30), (8, 9, 35), (1000, 9, 35)):
            self.assertEqual(best_story(records, shortage=shortage, surplus=1), {1: 9, 2: amount})
            self.assertEqual(least_weight(records, shortage=shortage, surplus=1), weight)

    def test_goods_found(self):
        records = [(1, 0, "a", 4, 7), (2, 1, "a", "-", 4, None)]
        for surplus, weight in ((1, 4), (1000, 4000)):
            self.assertEqual(best_story(records, shortage=1, surplus=surplus), {1: 4, 2: 4})
            self.assertEqual(least_weight(records, shortage=1, surplus=surplus), weight)
        unsure = [(1, 0, "a", 4, 7), (2, 1, "a", "-", 4, 2)]
        for surplus, amount, weight in ((8, 4, 32), (10, 0, 36), (1000, 0, 36)):
            self.assertEqual(best_story(unsure, shortage=1, surplus=surplus), {1: amount, 2: amount})
            self.assertEqual(least_weight(unsure, shortage=1, surplus=surplus), weight)

    def test_written_down_amounts_are_raised(self):
        records = [(1, 0, "-", "a", 0, 1), (2, 1, "a", "b", 0, 2), (3, 2, "b", "-", 10**6, None)]
        self.assertEqual(best_story(records, **COSTS), {1: 10**6, 2: 10**6, 3: 10**6})
        self.assertEqual(least_weight(records, **COSTS), 3 * 10**6)

    def test_the_sequence_decides_among_least_stories(self):
        # Either the move was less or the count was more; whichever comes first is the least.
        self.assertEqual(best_story(CHOICE, **COSTS), {1: 3, 2: 3})
        taken = [(1, 0, "-", "a", 3, None), (2, 1, "a", "-", 3, 2), (3, 1, "a", "-", 3, 2)]
        for mixed in orders(taken):
            self.assertEqual(best_story(mixed, **COSTS), {1: 3, 2: 0, 3: 3})
        later = [(1, 0, "-", "a", 3, None), (2, 2, "a", "-", 3, 2), (3, 1, "a", "-", 3, 2)]
        for mixed in orders(later):
            self.assertEqual(best_story(mixed, **COSTS), {1: 3, 2: 3, 3: 0})
        smaller_ids_last = [(3, 0, "-", "a", 3, None), (2, 1, "a", "-", 3, 2), (1, 1, "a", "-", 3, 2)]
        self.assertEqual(best_story(smaller_ids_last, **COSTS), {3: 3, 1: 0, 2: 3})

    def test_like_a_plain_search(self):
        several = gaps = 0
        for records, costs in small_samples(1, 400):
            search = Search(records, **costs)
            if search.weight is not None:
                several += len(search.stories) > 1
                gaps += any(gap for row in search.gaps for gap in row)
                for mixed in orders(records, many=1)[:4]:
                    self.assertEqual(best_story(mixed, **costs), search.best())
                    self.assertEqual(least_weight(mixed, **costs), search.weight)
        self.assertGreater(several, 20)
        self.assertGreater(gaps, 20)

    def test_many_records(self):
        for many, greatest, sure in ((40, 10**6, 0), (40, 10, 0), (40, 10**6, 0.1), (200, 10**6, 0), (150, 3, 0.05)):
            for seed in range(3):
                records = many_records(seed, many, greatest, sure)
                try:
                    story = best_story(records, **COSTS)
                except Contradiction as caught:
                    self.assertGreater(sure, 0)
                    self.assertTrue(plainly_contradicts(records, caught.prices))
                    continue
                prices, weight = best_prices(records, **COSTS), least_weight(records, **COSTS)
                self.assertIs(is_story(records, story), True)
                self.assertEqual(story_weight(records, story, **COSTS), weight)
                self.assertTrue(plainly_right(records, prices, **COSTS))
                self.assertEqual(plain_bound(records, prices, 10), weight)
                self.assertEqual(best_story(records[::-1], **COSTS), story)

    def test_amounts_at_the_ends(self):
        records = [(1, 0, "-", "a", 10**6, 1), (2, 1, "a", 0, 999), (3, 2, "a", "b", 10**6, 1000), (4, 3, "b", 0, 1)]
        for shortage, surplus in ((1, 1), (1, 1000), (1000, 1), (1000, 1000)):
            costs = {"shortage": shortage, "surplus": surplus}
            self.assertIs(is_certificate(records, best_story(records, **costs), best_prices(records, **costs), **costs),
                          True)
        # All of it came and went on, or nothing did: the former weighs 999 + 1 for a unit, the latter 1 + 1000.
        self.assertEqual(best_story(records, **costs), {1: 10**6, 2: 10**6, 3: 10**6, 4: 10**6})
        records[1] = (2, 1, "a", 0, 1000)
        self.assertEqual(best_story(records, **costs), {1: 0, 2: 0, 3: 0, 4: 0})
        self.assertEqual(least_weight(records, **costs), 1001 * 10**6)


class BetterStoryTest(unittest.TestCase):

    def better(self, records, story, found, costs):
        weights = [story_weight(records, told, **costs) for told in (found, story)]
        lists = [[told[record[0]] for record in sorted(records, key=lambda row: (row[1], row[0]))]
                 for told in (found, story)]
        self.assertIs(is_story(records, found), True)
        self.assertLess((weights[0], lists[0]), (weights[1], lists[1]))

    def test_best_story(self):
        for records in (PAIR, CHOICE, MONTH):
            for mixed in orders(records):
                best = best_story(mixed, **COSTS)
                self.assertIsNone(better_story(mixed, best, **COSTS))
                self.assertIsNone(better_story(mixed, reversed_keys(best), **COSTS))

    def test_other_stories(self):
        for story in ({1: 5, 2: 4}, {1: 0, 2: 0}, {1: 5, 2: 6}, {2: 6, 1: 6}, {1: 10**30, 2: 10**30}):
            self.better(PAIR, story, better_story(PAIR, story, **COSTS), COSTS)

    def test_the_same_weight(self):
        for amount in (4, 5):
            story = {1: amount, 2: amount}
            self.assertEqual(story_weight(CHOICE, story, **COSTS), least_weight(CHOICE, **COSTS))
            self.better(CHOICE, story, better_story(CHOICE, story, **COSTS), COSTS)

    def test_all_least_stories_but_one(self):
        told = 0
        for records, costs in small_samples(2, 150):
            search = Search(records, **costs)
            for story in search.stories:
                found = better_story(records, story, **costs)
                if story == search.best():
                    self.assertIsNone(found)
                else:
                    self.better(records, story, found, costs)
                    told += 1
        self.assertGreater(told, 20)


class BestPricesTest(unittest.TestCase):

    def certify(self, records, costs, weight):
        prices = best_prices(records, **costs)
        self.assertIs(are_right(records, prices, **costs), True)
        self.assertTrue(plainly_right(records, prices, **costs))
        self.assertEqual(bound(records, prices, surplus=costs["surplus"]), weight)
        self.assertEqual(plain_bound(records, prices, costs["surplus"]), weight)
        return prices

    def test_of_the_examples(self):
        for mixed in orders(PAIR):
            self.certify(mixed, COSTS, 2)
            self.certify(mixed, {"shortage": 1, "surplus": 10}, 1)
        for mixed in orders(MONTH):
            self.certify(mixed, COSTS, least_weight(MONTH, **COSTS))

    def test_like_a_plain_search(self):
        surely = 0
        for records, costs in small_samples(3, 400):
            search = Search(records, **costs)
            if search.weight is not None:
                prices = self.certify(records, costs, search.weight)
                for ident in surely_right(records, prices, surplus=costs["surplus"]):
                    written = {record[0]: record[-2] for record in records}[ident]
                    self.assertEqual(search.amounts_of(ident), [written])
                    surely += 1
        self.assertGreater(surely, 100)

    def test_places_that_no_goods_reach(self):
        records = [(1, 0, "a", "b", 0, 1), (2, 0, "b", "a", 0, None), (3, 5, "c", 0, None), (4, 9, "d", "-", 0, 3)]
        self.certify(records, COSTS, 0)
        self.assertEqual(sorted(best_prices(records, **COSTS)), ["a", "b", "c", "d"])


class ContradictionTest(unittest.TestCase):

    def raised(self, function, records, costs):
        with self.assertRaises(Contradiction) as caught:
            function(records, **costs)
        self.assertIsInstance(caught.exception, StockError)
        return caught.exception.prices

    def shown(self, records, prices):
        self.assertIs(shows_contradiction(records, prices), True)
        self.assertTrue(plainly_contradicts(records, prices))

    def test_from_each_function(self):
        for records in CONTRADICTIONS:
            for mixed in orders(records):
                for function in RAISING:
                    self.shown(mixed, self.raised(function, mixed, COSTS))

    def test_only_sure_records_contradict_each_other(self):
        for records in CONTRADICTIONS:
            eased = [record[:-1] + (1000,) for record in records]
            self.assertIs(is_story(eased, best_story(eased, **COSTS)), True)

    def test_blamed_records_alone(self):
        for records in CONTRADICTIONS:
            prices = self.raised(best_story, records, COSTS)
            guilty = list(blamed(records, prices))
            self.assertNotEqual(guilty, [])
            sure = {record[0] for record in records if record[-1] is None}
            self.assertLessEqual(set(guilty), sure)
            eased = [record if record[0] in guilty else record[:-1] + (3,) for record in records]
            self.shown(eased, prices)
            for function in RAISING:
                self.shown(eased, self.raised(function, eased, COSTS))

    def test_just_where_there_is_no_story(self):
        told = 0
        for records, costs in small_samples(4, 500):
            if Search(records, **costs).weight is None:
                told += 1
                for function in RAISING:
                    prices = self.raised(function, records, costs)
                    self.shown(records, prices)
                    guilty = list(blamed(records, prices))
                    alone = [record if record[0] in guilty else record[:-1] + (1,) for record in records]
                    self.assertIsNone(Search(alone, **costs).weight)
                    self.raised(function, alone, costs)
            else:
                for function in RAISING:
                    function(records, **costs)
        self.assertGreater(told, 20)


class CallsTest(unittest.TestCase):

    def test_arguments_stay(self):
        records = MONTH[::-1]
        for function in RAISING:
            function(records, **COSTS)
        story = best_story(records, **COSTS)
        before = list(story.items())
        better_story(records, story, **COSTS)
        self.assertEqual(list(story.items()), before)
        self.assertEqual(records, MONTH[::-1])
        for records in CONTRADICTIONS:
            kept = list(records)
            for function in RAISING:
                with self.assertRaises(Contradiction):
                    function(records, **COSTS)
            self.assertEqual(records, kept)

    def test_results_are_new(self):
        story, prices = best_story(MONTH, **COSTS), best_prices(MONTH, **COSTS)
        worse = {record[0]: amount + 1 for record, amount in zip(CHOICE, (4, 4))}
        better = better_story(CHOICE, worse, **COSTS)
        kept = [dict(story), {place: list(prices[place]) for place in prices}, dict(better)]
        story.clear()
        for row in prices.values():
            row.append(1)
        prices["other"] = []
        better[1] = 99
        self.assertEqual([best_story(MONTH, **COSTS), best_prices(MONTH, **COSTS)], kept[:2])
        self.assertEqual(better_story(CHOICE, worse, **COSTS), kept[2])
        self.assertEqual([type(part) for part in (story, prices, better)], [dict] * 3)

    def test_prices_of_an_error_are_new(self):
        for _ in range(2):
            with self.assertRaises(Contradiction) as caught:
                best_story(CONTRADICTIONS[0], **COSTS)
            self.assertIs(shows_contradiction(CONTRADICTIONS[0], caught.exception.prices), True)
            caught.exception.prices["a"][0] = 0

    def test_after_the_list_was_changed_in_place(self):
        records = list(PAIR)
        self.assertEqual(best_story(records, **COSTS), {1: 5, 2: 5})
        records[1] = (2, 1, "shelf", 4, None)
        self.assertEqual(best_story(records, **COSTS), {1: 4, 2: 4})
        self.assertEqual(least_weight(records, **COSTS), 3)

    def test_by_name(self):
        self.assertEqual(best_story(surplus=10, shortage=1, records=PAIR), {1: 5, 2: 4})
        self.assertEqual(least_weight(surplus=10, shortage=1, records=PAIR), 1)
        prices = best_prices(surplus=10, shortage=1, records=PAIR)
        self.assertIs(is_certificate(PAIR, {1: 5, 2: 4}, prices, shortage=1, surplus=10), True)
        self.assertIsNone(better_story(surplus=10, shortage=1, story={1: 5, 2: 4}, records=PAIR))

    def test_costs_by_name_alone(self):
        for function in RAISING:
            with self.assertRaises(TypeError):
                function(PAIR, 10, 10)
            with self.assertRaises(TypeError):
                function(PAIR, shortage=10)
        with self.assertRaises(TypeError):
            better_story(PAIR, {1: 5, 2: 5}, 10, 10)


if __name__ == "__main__":
    unittest.main()
