"""Stories: what is one, its stocks, gaps, mistakes and weight."""

import copy
import inspect
import itertools
import random
import unittest

from sample_values import any_values, nested
from stockcounts import stories as module
from stockcounts.stories import Story, gaps, is_story, mistakes, stocks, story_weight

PAIR = [(1, 0, '-', 'shelf', 5, 3), (2, 1, 'shelf', 4, 2)]

# Goods come in, a part of them moves on, and both places are counted twice.
WEEK = [
    (5, 0, "-", "shelf", 10, 2),
    (2, 1, "shelf", "van", 4, 3),
    (9, 1, "shelf", 5, 7),
    (3, 2, "van", 6, None),
    (8, 3, "van", "-", 6, 1),
    (1, 3, "shelf", "-", 0, 1000),
    (4, 4, "shelf", 5, 1),
    (7, 4, "van", 1, 11),
]
WEEK_STORY = {5: 12, 2: 4, 9: 5, 3: 6, 1: 1, 8: 5, 4: 7, 7: 1}
WEEK_STOCKS = {"shelf": [0, 12, 8, 5, 4, 7], "van": [0, 4, 6, 1, 1]}
WEEK_GAPS = [(9, -3), (3, 2), (4, 3), (7, 0)]
WEEK_MISTAKES = [(5, 10, 12), (1, 0, 1), (8, 6, 5), (4, 5, 7)]


def orders(records, many=60):
    """The records in some sequences, always the same ones."""
    if len(records) < 5:
        return [list(mixed) for mixed in itertools.permutations(records)]
    chance = random.Random(7)
    return [records, records[::-1]] + [chance.sample(records, len(records)) for _ in range(many)]


def told_slowly(records, story, shortage, surplus):
    """The stocks, the gaps and the weight, by going through [5] and [6] word by word."""
    ends = {end for record in records for end in record[2:len(record) - 2]} - {"-"}
    level, rows, found, weight = dict.fromkeys(ends, 0), {end: [0] for end in ends}, [], 0
    for record in sorted(records, key=lambda row: (row[1], row[0])):
        amount = story[record[0]]
        if len(record) == 6:
            _, _, source, target, amount_written, trust = record
            if source != "-":
                level[source] -= amount
                rows[source].append(level[source])
            if target != "-":
                level[target] += amount
                rows[target].append(level[target])
        else:
            _, _, place, amount_written, trust = record
            had, level[place] = level[place], amount
            rows[place].append(amount)
            found.append((record[0], amount - had))
            weight += (had - amount) * shortage if had > amount else (amount - had) * surplus
        if trust is not None:
            weight += trust * max(amount - amount_written, amount_written - amount)
    return rows, found, weight


def random_records(chance):
    ends = ["-", "a", "b", "cc"]
    records = []
    for ident in chance.sample(range(1, 30), chance.randint(1, 9)):
        amount, time = chance.randint(0, 9), chance.randint(0, 4)
        weight = chance.choice([None, 1, 2, 7, 1000])
        if chance.random() < 0.5:
            source, target = chance.sample(ends, 2)
            records.append((ident, time, source, target, amount, weight))
        else:
            records.append((ident, time, chance.choice(ends[1:]), amount, weight))
    return records


def amounts_like(records, chance):
    return {record[0]: record[-2] if record[-1] is None or chance.random() < 0.3 else chance.randint(0, 9)
            for record in records}


class IsStoryTest(unittest.TestCase):

    def says(self, expected, records, values):
        for value in values:
            with self.subTest(value=repr(value)[:80]):
                self.assertIs(is_story(records, value), expected)

    def test_stories(self):
        self.says(True, PAIR, [{1: 5, 2: 4}, {1: 5, 2: 5}, {1: 0, 2: 0}, {1: 0, 2: 10**6}, {2: 4, 1: 5}])
        self.says(True, [], [{}])
        for mixed in orders(WEEK):
            self.says(True, mixed, [WEEK_STORY, dict(reversed(list(WEEK_STORY.items())))])

    def test_amounts_have_no_upper_end(self):
        self.says(True, PAIR, [{1: 10**6 + 1, 2: 10**60}, {1: 10**400, 2: 0}])

    def test_ids_left_out_or_put_in(self):
        self.says(False, PAIR, [{}, {1: 5}, {2: 4}, {1: 5, 2: 4, 3: 0}, {1: 5, 3: 4}, {0: 5, 2: 4}])
        self.says(False, PAIR, [{1: 5, 2: 4, None: 1}, {1: 5, "2": 4}, {1: 5, (2,): 4}, {"1": 5, "2": 4}])
        self.says(False, [], [{1: 0}, {True: 1}, {None: None}])

    def test_amounts_below_none(self):
        self.says(False, PAIR, [{1: -1, 2: 4}, {1: 5, 2: -1}, {1: 5, 2: -10**60}])
        # Nothing runs short in these: the source gains, and the target has enough.
        self.says(False, [(1, 0, "a", "-", 5, 1)], [{1: -1}, {1: -10**60}])
        self.says(False, [(1, 0, "b", 9, 1), (2, 1, "a", "b", 5, 1)], [{1: 9, 2: -1}, {1: 9, 2: -9}])

    def test_a_bool_is_no_integer(self):
        self.says(False, PAIR, [{True: 5, 2: 4}, {1: True, 2: 4}, {1: 5, 2: False}, {1: False, 2: 0}])
        self.says(False, [(1, 0, "-", "a", 1, None)], [{1: True}, {True: 1}])
        self.says(True, [(1, 0, "-", "a", 1, None)], [{1: 1}])

    def test_other_values(self):
        others = [value for value in any_values() if value != {}]
        self.says(False, PAIR, others + [None, [5, 4], [(1, 5), (2, 4)], ((1, 5), (2, 4)), "{1: 5, 2: 4}"])
        self.says(False, [], [None, [], (), "", 0, False])
        for other in any_values() + [None]:
            if type(other) is not int or other < 0:
                self.says(False, PAIR, [{1: other, 2: 4}, {1: 5, 2: other}])
        deep = [nested(depth, kind) for depth in (2, 30) for kind in ("list", "tuple", "dict")]
        self.says(False, [(1, 0, "a", 1, 1)], deep + [{1: value} for value in deep])
        self.says(False, PAIR, [{nested(29, "tuple"): 5, 2: 4}])

    def test_the_source_must_have_as_much(self):
        moved = [(1, 0, "-", "a", 5, 1), (2, 1, "a", "b", 5, 1), (3, 2, "b", "-", 5, 1)]
        self.says(True, moved, [{1: 5, 2: 5, 3: 5}, {1: 5, 2: 4, 3: 4}, {1: 7, 2: 4, 3: 0}])
        self.says(False, moved, [{1: 5, 2: 6, 3: 0}, {1: 5, 2: 4, 3: 5}, {1: 0, 2: 1, 3: 1}])
        # What comes in later is no help, and neither is what another place has.
        self.says(False, [(1, 1, "-", "a", 5, 1), (2, 0, "a", "-", 5, 1)], [{1: 5, 2: 1}])
        self.says(True, [(1, 1, "-", "a", 5, 1), (2, 0, "a", "-", 5, 1)], [{1: 5, 2: 0}])
        self.says(False, [(1, 0, "-", "a", 5, 1), (2, 1, "b", "-", 5, 1)], [{1: 5, 2: 1}])

    def test_records_of_the_same_time_go_by_ids(self):
        self.says(True, [(2, 0, "a", "-", 5, 1), (1, 0, "-", "a", 5, 1)], [{1: 5, 2: 5}])
        self.says(False, [(1, 0, "a", "-", 5, 1), (2, 0, "-", "a", 5, 1)], [{1: 5, 2: 5}])

    def test_a_count_finds_goods(self):
        counted = [(1, 0, "a", 4, None), (2, 1, "a", "-", 4, 1), (3, 2, "a", 3, 1), (4, 3, "a", "b", 1, 1)]
        self.says(True, counted, [{1: 4, 2: 4, 3: 3, 4: 1}, {1: 4, 2: 0, 3: 0, 4: 0}])
        self.says(False, counted, [{1: 4, 2: 5, 3: 3, 4: 1}, {1: 4, 2: 0, 3: 3, 4: 4}])

    def test_outside_has_no_end(self):
        self.says(True, [(1, 0, "-", "a", 0, 1), (2, 0, "-", "b", 0, 1)], [{1: 10**9, 2: 10**9}])

    def test_sure_records(self):
        sure = [(1, 0, "-", "a", 5, None), (2, 1, "a", 4, 1)]
        self.says(True, sure, [{1: 5, 2: 0}, {1: 5, 2: 9}])
        self.says(False, sure, [{1: 4, 2: 4}, {1: 6, 2: 4}, {1: 0, 2: 0}])
        counted = [(1, 0, "-", "a", 5, 1), (2, 1, "a", 4, None)]
        self.says(True, counted, [{1: 0, 2: 4}])
        self.says(False, counted, [{1: 5, 2: 5}, {1: 5, 2: 3}])
        self.says(False, [(1, 0, "a", "b", 3, None)], [{1: 3}, {1: 0}])

    def test_like_the_slow_way(self):
        chance = random.Random(15)
        for _ in range(400):
            records = random_records(chance)
            story = amounts_like(records, chance)
            rows = told_slowly(records, story, 1, 1)[0]
            self.assertIs(is_story(records, story), min(sum(rows.values(), [0])) >= 0)

    def test_arguments_stay(self):
        records, story = list(WEEK), dict(WEEK_STORY)
        is_story(records, story)
        self.assertEqual([records, story], [WEEK, WEEK_STORY])


class ExplanationsTest(unittest.TestCase):

    def test_examples(self):
        self.assertEqual([stocks(PAIR, {1: 5, 2: 4}), story_weight(PAIR, {1: 5, 2: 4}, shortage=10, surplus=10)],
                         [{'shelf': [0, 5, 4]}, 10])
        self.assertEqual(list(gaps(PAIR, {1: 5, 2: 4})), [(2, -1)])

    def test_each_stands_in_its_file(self):
        for name in ["is_story", "stocks", "gaps", "mistakes", "story_weight", "Story"]:
            self.assertEqual(getattr(module, name).__module__, "stockcounts.stories")

    def test_stocks_and_gaps_in_any_sequence(self):
        for mixed in orders(WEEK):
            self.assertEqual(stocks(mixed, WEEK_STORY), WEEK_STOCKS)
            self.assertEqual(list(gaps(mixed, WEEK_STORY)), WEEK_GAPS)

    def test_mistakes_in_any_sequence(self):
        for mixed in orders(WEEK):
            self.assertEqual(list(mistakes(mixed, WEEK_STORY)), WEEK_MISTAKES)
        self.assertEqual(list(mistakes(PAIR, {1: 5, 2: 4})), [])

    def test_weight_in_any_sequence(self):
        # 2 * 2 + 1 * 1000 + 1 * 1 + 2 * 1 of corrections, 3 missing units, and 2 + 3 found ones.
        for mixed in orders(WEEK):
            for shortage, surplus in ((1, 1), (10, 1), (1, 1000), (1000, 7)):
                self.assertEqual(story_weight(mixed, WEEK_STORY, shortage=shortage, surplus=surplus),
                                 1007 + 3 * shortage + 5 * surplus)

    def test_weight_of_corrections_up_and_down(self):
        moved = [(1, 0, "-", "a", 5, 7)]
        told = [story_weight(moved, {1: amount}, shortage=10, surplus=10) for amount in (0, 4, 5, 6, 10**30)]
        self.assertEqual(told, [35, 7, 0, 7, 7 * (10**30 - 5)])

    def test_weight_of_sure_records(self):
        sure = [(1, 0, "-", "a", 5, None), (2, 1, "a", 4, None)]
        self.assertEqual(story_weight(sure, {1: 5, 2: 4}, shortage=3, surplus=10), 3)

    def test_weight_of_found_units(self):
        found = [(1, 0, "a", 4, 1), (2, 1, "a", 6, 1)]
        self.assertEqual(story_weight(found, {1: 4, 2: 6}, shortage=1, surplus=10), 60)
        self.assertEqual(list(gaps(found, {1: 4, 2: 6})), [(1, 4), (2, 2)])

    def test_without_records(self):
        self.assertEqual([stocks([], {}), list(gaps([], {})), list(mistakes([], {}))], [{}, [], []])
        self.assertEqual(story_weight([], {}, shortage=1, surplus=1), 0)

    def test_same_places_at_the_same_time(self):
        records = [(3, 0, "a", 2, 1), (1, 0, "-", "a", 5, 1), (2, 0, "a", "b", 4, 1)]
        story = {1: 5, 2: 4, 3: 2}
        self.assertEqual(stocks(records, story), {"a": [0, 5, 1, 2], "b": [0, 4]})
        self.assertEqual(list(gaps(records, story)), [(3, 1)])

    def test_like_the_slow_way(self):
        chance = random.Random(3)
        for _ in range(400):
            records = random_records(chance)
            story = amounts_like(records, chance)
            shortage, surplus = chance.randint(1, 1000), chance.randint(1, 1000)
            rows, found, weight = told_slowly(records, story, shortage, surplus)
            self.assertEqual(stocks(records, story), rows)
            self.assertEqual(list(gaps(records, story)), found)
            self.assertEqual(story_weight(records, story, shortage=shortage, surplus=surplus), weight)

    def test_yield(self):
        self.assertTrue(inspect.isgenerator(gaps(WEEK, WEEK_STORY)))
        self.assertTrue(inspect.isgenerator(mistakes(WEEK, WEEK_STORY)))
        for row in list(gaps(WEEK, WEEK_STORY)) + list(mistakes(WEEK, WEEK_STORY)):
            self.assertIs(type(row), tuple)

    def test_caller_changes_the_arguments_while_they_yield(self):
        records, story = list(WEEK), dict(WEEK_STORY)
        rows = []
        for ident, was, now in mistakes(records, story):
            rows.append((ident, was, now))
            story.clear()
            records.clear()
        self.assertEqual(rows, WEEK_MISTAKES)
        records, story = list(WEEK), dict(WEEK_STORY)
        rows = []
        for ident, gap in gaps(records, story):
            rows.append((ident, gap))
            story.clear()
            records.clear()
        self.assertEqual(rows, WEEK_GAPS)

    def test_arguments_stay_and_results_are_new(self):
        records, story = WEEK[::-1], dict(WEEK_STORY)
        first = stocks(records, story)
        first["shelf"].clear()
        del first["van"]
        self.assertEqual(stocks(records, story), WEEK_STOCKS)
        list(gaps(records, story))
        list(mistakes(records, story))
        story_weight(records, story, shortage=1, surplus=1)
        self.assertEqual([records, story], [WEEK[::-1], WEEK_STORY])

    def test_by_name(self):
        self.assertIs(is_story(value={1: 5, 2: 4}, records=PAIR), True)
        self.assertEqual(stocks(story={1: 5, 2: 4}, records=PAIR), {"shelf": [0, 5, 4]})
        self.assertEqual(list(gaps(story={1: 5, 2: 4}, records=PAIR)), [(2, -1)])
        self.assertEqual(list(mistakes(story={1: 5, 2: 5}, records=PAIR)), [(2, 4, 5)])
        self.assertEqual(story_weight(surplus=1, shortage=8, story={1: 5, 2: 4}, records=PAIR), 8)

    def test_costs_by_name_alone(self):
        with self.assertRaises(TypeError):
            story_weight(PAIR, {1: 5, 2: 4}, 10, 10)
        with self.assertRaises(TypeError):
            story_weight(PAIR, {1: 5, 2: 4}, shortage=10)


if __name__ == "__main__":
    unittest.main()
