"""The class Story."""

import unittest

from sample_values import any_values
from stockcounts.errors import StockError, UnknownId
from stockcounts.stories import Story, story_weight
from test_stories import PAIR, WEEK, WEEK_STOCKS, WEEK_STORY, orders


class StoryTest(unittest.TestCase):

    def setUp(self):
        self.story = Story(WEEK, WEEK_STORY)

    def test_amounts_and_stocks(self):
        for mixed in orders(WEEK):
            story = Story(mixed, WEEK_STORY)
            self.assertEqual(story.amounts, WEEK_STORY)
            self.assertEqual(story.stocks, WEEK_STOCKS)
        self.assertIs(type(self.story.amounts), dict)

    def test_length(self):
        self.assertEqual([len(self.story), len(Story(PAIR, {1: 5, 2: 4})), len(Story([], {}))], [8, 2, 0])

    def test_without_records(self):
        story = Story([], {})
        self.assertEqual([story.amounts, story.stocks, story.total(1, 1), 1 in story], [{}, {}, 0, False])

    def test_total(self):
        for mixed in orders(WEEK):
            story = Story(mixed, WEEK_STORY)
            self.assertEqual(story.total(1, 1000), 1007 + 3 + 5000)
            self.assertEqual(story.total(1000, 1), 1007 + 3000 + 5)
        self.assertEqual(self.story.total(7, 9), story_weight(WEEK, WEEK_STORY, shortage=7, surplus=9))

    def test_ids_are_in_it(self):
        for ident in WEEK_STORY:
            self.assertIs(ident in self.story, True)

    def test_nothing_else_is_in_it(self):
        for value in any_values() + [None, 0, 6, 10, "1", (1,), [1], {1: 12}, WEEK[0]]:
            self.assertIs(value in self.story, False)
            self.assertIs(value not in self.story, True)

    def test_items(self):
        self.assertEqual({ident: self.story[ident] for ident in WEEK_STORY}, WEEK_STORY)

    def test_unknown_ids(self):
        for value in any_values() + [None, 0, 6, 10, "1", (1,), [1], {1: 12}, WEEK[0]]:
            with self.assertRaises(UnknownId) as caught:
                self.story[value]
            self.assertIs(caught.exception.ident, value)
        self.assertTrue(issubclass(UnknownId, StockError))

    def test_true_is_no_id(self):
        self.assertEqual(self.story[1], 1)
        self.assertIs(True in self.story, False)
        with self.assertRaises(UnknownId) as caught:
            self.story[True]
        self.assertIs(caught.exception.ident, True)

    def test_is_not_iterated_over(self):
        for story in (self.story, Story([], {}), Story([(1, 0, "a", 1, 1)], {1: 1})):
            with self.assertRaises(TypeError):
                iter(story)
            with self.assertRaises(TypeError):
                list(story)
            with self.assertRaises(TypeError):
                for _ in story:
                    pass
            with self.assertRaises(TypeError):
                [*story]

    def test_keeps_copies_of_what_it_was_given(self):
        records, amounts = list(WEEK), dict(WEEK_STORY)
        story = Story(records, amounts)
        records.clear()
        amounts[1] = 99
        del amounts[7]
        self.unchanged(story)

    def test_returns_copies(self):
        amounts = self.story.amounts
        amounts[1] = 99
        amounts[10] = 1
        levels = self.story.stocks
        levels["shelf"][1] = 99
        levels["van"].clear()
        levels["other"] = []
        self.unchanged(self.story)

    def unchanged(self, story):
        self.assertEqual([story.amounts, story.stocks, len(story)], [WEEK_STORY, WEEK_STOCKS, 8])
        self.assertEqual([story[1], story[7], story.total(1, 1)], [1, 1, 1015])
        self.assertEqual([1 in story, 7 in story, 10 in story], [True, True, False])

    def test_arguments_stay(self):
        records, amounts = WEEK[::-1], dict(WEEK_STORY)
        Story(records, amounts).total(1, 1)
        self.assertEqual([records, amounts], [WEEK[::-1], WEEK_STORY])

    def test_a_failing_call_changes_nothing(self):
        with self.assertRaises(UnknownId):
            self.story[99]
        self.unchanged(self.story)

    def test_by_name(self):
        story = Story(amounts={1: 5, 2: 4}, records=PAIR)
        self.assertEqual(story.amounts, {1: 5, 2: 4})
        self.assertEqual([story.total(surplus=1, shortage=8), story.total(8, surplus=1)], [8, 8])

    def test_members_stand_in_the_class(self):
        for name in ["amounts", "stocks", "total", "__contains__", "__len__", "__getitem__", "__iter__"]:
            self.assertIn(name, vars(Story))
        for name in ("amounts", "stocks"):
            self.assertIsInstance(vars(Story)[name], property)


if __name__ == "__main__":
    unittest.main()
