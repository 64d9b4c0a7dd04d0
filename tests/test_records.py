"""Records: what is one, their sequence, their places and stretches."""

import copy
import itertools
import unittest

from sample_values import any_values, nested
from stockcounts import records as module
from stockcounts.records import (
    are_records, in_sequence, is_cost, is_count, is_move, is_place, is_record, is_weight,
    places_of, stretches_of, weight_of, with_weight, written)

NAMES = ["is_place", "is_weight", "is_move", "is_count", "is_record", "is_cost", "are_records",
         "with_weight", "in_sequence", "places_of", "stretches_of", "written", "weight_of"]

MOVE = (7, 3, "shelf", "van", 5, 2)
COUNT = (8, 4, "shelf", 5, 2)
IDENTS = [1, 2, 999999, 10**6]
TIMES = [0, 1, 999999, 10**6]
AMOUNTS = TIMES
WEIGHTS = [None, 1, 2, 999, 1000]
PLACES = ["a", "z", "shelf", "abcdefgh", "zzzzzzzz"]
WRONG_IDENTS = [0, -1, 10**6 + 1, 10**60, True, False, None, "1", "", (1,), [1], {1: 1}]
WRONG_TIMES = [-1, 10**6 + 1, -10**60, True, False, None, "0", (), [], {}]
WRONG_AMOUNTS = WRONG_TIMES
WRONG_WEIGHTS = [0, -1, 1001, 10**60, True, False, "None", "sure", "", (), [], {}, [None]]
WRONG_PLACES = ["", "abcdefghi", "A", "aB", "a1", "a b", " a", "a ", "a\n", "a-", "--", "`", "{", "a_b",
                0, 1, True, None, ("a",), ["a"], {"a": "a"}]


def with_part(record, at, part):
    return record[:at] + (part,) + record[at + 1:]


class AskingTest(unittest.TestCase):
    """Common to the tests that ask is_place and the like."""

    def says(self, function, expected, values):
        for value in values:
            with self.subTest(function=function.__name__, value=repr(value)[:80]):
                self.assertIs(function(value), expected)


class PartsTest(AskingTest):

    def test_examples(self):
        asked = [(1, 0, '-', 'shelf', 5, 3), (2, 1, 'shelf', 4, None), (3, 1, 'a', 'a', 4, 1)]
        self.assertEqual([is_record(value) for value in asked], [True, True, False])
        asked = [(1, 0, '-', 'shelf', 5, 3), (2, 1, 'shelf', 'van', 4, 2)]
        self.assertEqual(stretches_of(asked), {'shelf': 3, 'van': 2})

    def test_each_stands_in_its_file(self):
        for name in NAMES:
            self.assertEqual(getattr(module, name).__module__, "stockcounts.records")

    def test_places(self):
        self.says(is_place, True, PLACES + list("abcdefghijklmnopqrstuvwxyz"))
        self.says(is_place, False, WRONG_PLACES + ["-"])
        others = [chr(at) for at in range(32, 127) if not "a" <= chr(at) <= "z"] + ["\n"]
        self.says(is_place, False, others + ["a" + sign for sign in others] + [sign + "a" for sign in others])

    def test_weights(self):
        self.says(is_weight, True, WEIGHTS)
        self.says(is_weight, False, WRONG_WEIGHTS)

    def test_costs(self):
        self.says(is_cost, True, [1, 2, 10, 999, 1000])
        self.says(is_cost, False, WRONG_WEIGHTS + [None])

    def test_anything_else_is_none_of_them(self):
        others = any_values() + [10**6 + 1]
        for function in (is_place, is_weight, is_cost, is_move, is_count, is_record, are_records):
            self.says(function, False, others)
        for function in (is_place, is_move, is_count, is_record, are_records, is_cost):
            self.says(function, False, [None])

    def test_always_a_bool(self):
        for function in (is_place, is_weight, is_cost, is_move, is_count, is_record, are_records):
            for value in any_values() + [MOVE, COUNT, [MOVE], [], None, 1, "shelf"]:
                self.assertIn(function(value), (True, False))
                self.assertIs(type(function(value)), bool)


class MovesAndCountsTest(AskingTest):

    def right(self, function, others, values):
        self.says(function, True, values)
        self.says(is_record, True, values)
        self.says(others, False, values)

    def wrong(self, values):
        for function in (is_move, is_count, is_record):
            self.says(function, False, values)

    def test_bounds_of_moves(self):
        values = [with_part(MOVE, 0, part) for part in IDENTS]
        values += [with_part(MOVE, 1, part) for part in TIMES]
        values += [with_part(MOVE, 2, part) for part in PLACES + ["-"] if part != "van"]
        values += [with_part(MOVE, 3, part) for part in PLACES + ["-"] if part != "shelf"]
        values += [with_part(MOVE, 4, part) for part in AMOUNTS]
        values += [with_part(MOVE, 5, part) for part in WEIGHTS]
        self.right(is_move, is_count, values)

    def test_bounds_of_counts(self):
        values = [with_part(COUNT, 0, part) for part in IDENTS]
        values += [with_part(COUNT, 1, part) for part in TIMES]
        values += [with_part(COUNT, 2, part) for part in PLACES]
        values += [with_part(COUNT, 3, part) for part in AMOUNTS]
        values += [with_part(COUNT, 4, part) for part in WEIGHTS]
        self.right(is_count, is_move, values)

    def test_beyond_the_bounds_of_moves(self):
        self.wrong([with_part(MOVE, 0, part) for part in WRONG_IDENTS])
        self.wrong([with_part(MOVE, 1, part) for part in WRONG_TIMES])
        self.wrong([with_part(MOVE, 2, part) for part in WRONG_PLACES])
        self.wrong([with_part(MOVE, 3, part) for part in WRONG_PLACES])
        self.wrong([with_part(MOVE, 4, part) for part in WRONG_AMOUNTS])
        self.wrong([with_part(MOVE, 5, part) for part in WRONG_WEIGHTS])

    def test_beyond_the_bounds_of_counts(self):
        self.wrong([with_part(COUNT, 0, part) for part in WRONG_IDENTS])
        self.wrong([with_part(COUNT, 1, part) for part in WRONG_TIMES])
        self.wrong([with_part(COUNT, 2, part) for part in WRONG_PLACES + ["-"]])
        self.wrong([with_part(COUNT, 3, part) for part in WRONG_AMOUNTS])
        self.wrong([with_part(COUNT, 4, part) for part in WRONG_WEIGHTS])

    def test_source_and_target_differ(self):
        self.wrong([(1, 0, end, end, 5, 1) for end in PLACES + ["-"]])

    def test_number_of_parts(self):
        self.wrong([MOVE + (1,), MOVE[1:], COUNT[:-1], COUNT[1:], MOVE + MOVE, (1, 0, "a"), ()])
        # A move without its last part is no count, and a count with one more is no move.
        self.wrong([MOVE[:-1], COUNT + (1,), COUNT + (None,)])

    def test_other_containers(self):
        self.wrong([list(MOVE), list(COUNT), dict(enumerate(MOVE)), [MOVE], [COUNT], (MOVE,), "abcdef", "abcde"])

    def test_nested_parts(self):
        for record in (MOVE, COUNT):
            for at in range(len(record)):
                for kind in ("list", "tuple", "dict"):
                    self.wrong([with_part(record, at, nested(depth, kind)) for depth in (1, 29, 30)])


class ListsTest(AskingTest):

    def test_right_lists(self):
        self.says(are_records, True, [[], [MOVE], [COUNT], [MOVE, COUNT], [COUNT, MOVE]])
        self.says(are_records, True, [[(ident, 0, "a", 1, 1) for ident in range(1, 60)]])
        self.says(are_records, True, [[(1, 5, "a", 1, None), (2, 5, "a", 1, None), (3, 0, "a", "-", 1, 1)]])

    def test_ids_that_come_twice(self):
        self.says(are_records, False, [[MOVE, MOVE], [MOVE, (7, 9, "van", 0, None)], [COUNT, MOVE, COUNT]])

    def test_wrong_members(self):
        for wrong in any_values() + [None, list(MOVE), with_part(MOVE, 5, 0), COUNT[:-1]]:
            self.says(are_records, False, [[wrong], [MOVE, wrong], [wrong, MOVE], [MOVE, wrong, COUNT]])

    def test_other_containers(self):
        self.says(are_records, False, [(MOVE, COUNT), (), {7: MOVE}, {MOVE: 7}, {}, MOVE, [[MOVE]], "", None])


class SequenceTest(unittest.TestCase):

    RECORDS = [
        (4, 0, "-", "shelf", 9, 1),
        (9, 0, "shelf", 9, None),
        (2, 3, "shelf", "van", 4, 5),
        (3, 3, "van", "-", 2, 5),
        (10, 3, "van", 1, 5),
        (1, 10**6, "abc", 0, 7),
    ]

    def test_by_times_then_by_ids(self):
        for mixed in itertools.permutations(self.RECORDS):
            self.assertEqual(in_sequence(list(mixed)), self.RECORDS)

    def test_ids_are_compared_as_integers(self):
        mixed = [(10, 5, "a", 1, 1), (9, 5, "a", 1, 1), (100, 5, "a", 1, 1)]
        self.assertEqual([record[0] for record in in_sequence(mixed)], [9, 10, 100])

    def test_places_ascending_without_outside(self):
        for mixed in itertools.permutations(self.RECORDS):
            self.assertEqual(places_of(list(mixed)), ["abc", "shelf", "van"])
        self.assertEqual(places_of([(1, 0, "-", "b", 1, 1), (2, 0, "a", "-", 1, 1)]), ["a", "b"])

    def test_stretches(self):
        for mixed in itertools.permutations(self.RECORDS):
            self.assertEqual(stretches_of(list(mixed)), {"shelf": 4, "van": 4, "abc": 2})
        self.assertEqual(stretches_of([(1, 0, "-", "b", 1, 1)]), {"b": 2})
        self.assertEqual(stretches_of([(1, 0, "b", "-", 1, 1)]), {"b": 2})

    def test_without_records(self):
        self.assertEqual([in_sequence([]), places_of([]), stretches_of([])], [[], [], {}])

    def test_arguments_stay_and_results_are_new(self):
        mixed = list(reversed(self.RECORDS))
        kept = copy.deepcopy(mixed)
        for function in (in_sequence, places_of, stretches_of):
            first = function(mixed)
            first.clear()
            self.assertEqual(mixed, kept)
            self.assertNotEqual(function(mixed), first)
        ordered = list(self.RECORDS)
        self.assertIsNot(in_sequence(ordered), ordered)

    def test_kinds_of_results(self):
        self.assertIs(type(in_sequence(self.RECORDS)), list)
        self.assertIs(type(places_of(self.RECORDS)), list)
        self.assertIs(type(stretches_of(self.RECORDS)), dict)


class PartsOfRecordsTest(unittest.TestCase):

    def test_written_and_weight(self):
        self.assertEqual([written(MOVE), weight_of(MOVE)], [5, 2])
        self.assertEqual([written(COUNT), weight_of(COUNT)], [5, 2])
        self.assertEqual([written((1, 0, "a", 0, None)), weight_of((1, 0, "a", 0, None))], [0, None])
        self.assertEqual([written((1, 0, "-", "a", 10**6, 1000)), weight_of((1, 0, "-", "a", 10**6, 1000))],
                         [10**6, 1000])

    def test_with_weight(self):
        self.assertEqual(with_weight(MOVE, None), (7, 3, "shelf", "van", 5, None))
        self.assertEqual(with_weight(COUNT, 1000), (8, 4, "shelf", 5, 1000))
        self.assertEqual(with_weight(with_weight(COUNT, None), 2), COUNT)
        self.assertEqual([MOVE, COUNT], [(7, 3, "shelf", "van", 5, 2), (8, 4, "shelf", 5, 2)])
        self.assertIs(type(with_weight(MOVE, 1)), tuple)

    def test_by_name(self):
        for function in (is_place, is_weight, is_cost, is_move, is_count, is_record, are_records):
            self.assertIs(function(value="="), False)
        self.assertEqual(in_sequence(records=[COUNT, MOVE]), [MOVE, COUNT])
        self.assertEqual(places_of(records=[COUNT, MOVE]), ["shelf", "van"])
        self.assertEqual(stretches_of(records=[COUNT, MOVE]), {"shelf": 3, "van": 2})
        self.assertEqual([written(record=COUNT), weight_of(record=COUNT)], [5, 2])
        self.assertEqual(with_weight(weight=9, record=COUNT), (8, 4, "shelf", 5, 9))


if __name__ == "__main__":
    unittest.main()
