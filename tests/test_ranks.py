"""[13] and the row cabinet/ranks.py; of [1] what holds of in_order."""

import copy
import itertools
import unittest

from cabinet.kinds import alike
from cabinet.ranks import before, in_order, rank
from tests.samples import RISING, holders, identities, nested, nested_records, spoil


class Order(unittest.TestCase):
    def test_each_with_each(self):
        things = [copy.deepcopy(RISING), copy.deepcopy(RISING)]
        for place, one in enumerate(things[0]):
            for other_place, other in enumerate(things[1]):
                self.assertIs(before(one, other), place < other_place, (one, other))
                self.assertEqual(rank(one) < rank(other), place < other_place, (one, other))
                self.assertEqual(rank(one) == rank(other), place == other_place, (one, other))

    def test_kinds(self):
        kinds = [[None], [False, True], [-5, 10 ** 12], ["", "zz"], [[], [[9]]], [{}, {"z": 9}]]
        for low, high in itertools.combinations(range(6), 2):
            for one in kinds[low]:
                for other in kinds[high]:
                    self.assertTrue(before(one, other), (one, other))
                    self.assertFalse(before(other, one), (one, other))

    def test_truths(self):
        self.assertIs(before(False, True), True)
        self.assertIs(before(True, False), False)

    def test_numbers_and_texts(self):
        self.assertTrue(before(-3, -2))
        self.assertTrue(before(9, 10))
        self.assertTrue(before("10", "9"))
        self.assertTrue(before("Z", "a"))
        self.assertTrue(before("a", "aa"))

    def test_rows(self):
        self.assertTrue(before([1, 5], [2, 0]))
        self.assertTrue(before([1], [1, 0]))
        self.assertTrue(before([1, 9, 9], [2]))
        self.assertTrue(before([0, True], [0, 0]))
        self.assertFalse(before([2], [1, 9, 9]))

    def test_records_of_the_document(self):
        self.assertTrue(before({"a": 1}, {"a": 1, "b": 0}))
        self.assertTrue(before({"a": 1, "b": 0}, {"a": 9}))
        self.assertTrue(before({"a": 1}, {"a": 9}))
        self.assertFalse(before({"a": 9}, {"a": 1, "b": 0}))

    def test_records_by_names(self):
        self.assertTrue(before({"a": 9}, {"b": 1}))
        self.assertTrue(before({"a": 1, "b": 9}, {"a": 1, "c": 0}))
        self.assertTrue(before({"c": 9, "a": 1}, {"b": 0, "a": 2}))
        self.assertTrue(before({"a": [1, 2]}, {"a": [1, 3], "b": 0}))

    def test_alike_none_is_ahead(self):
        pairs = [({"a": 1, "b": 2}, {"b": 2, "a": 1}), ([{"a": 1, "b": []}], [{"b": [], "a": 1}])]
        for one, other in pairs + [(thing, copy.deepcopy(thing)) for thing in RISING]:
            self.assertIs(before(one, other), False)
            self.assertIs(before(other, one), False)
            self.assertEqual(rank(one), rank(other))

    def test_rank_is_a_tuple(self):
        for thing in RISING:
            self.assertIsInstance(rank(thing), tuple)
            self.assertEqual(holders(rank(thing)), [])

    def test_truths_rank_as_no_numbers(self):
        for truth, number in [(True, 1), (False, 0), ([True], [1]), ({"a": [False]}, {"a": [0]})]:
            self.assertNotEqual(rank(truth), rank(number))
            self.assertLess(rank(truth), rank(number))

    def test_deep(self):
        self.assertTrue(before(nested(7), nested(8)))
        self.assertTrue(before(nested(8, 1), nested(8, 2)))
        self.assertTrue(before(nested(59), nested(60)))
        self.assertTrue(before(nested_records(59), nested_records(60)))

    def test_nothing_is_changed(self):
        things = [{"b": [1, {"c": []}], "a": [2]}, {"a": [2], "b": 3}]
        was = repr(things)
        before(things[0], things[1])
        rank(things[0])
        self.assertEqual(repr(things), was)


class InOrder(unittest.TestCase):
    def mixed(self):
        """RISING in another turn: by steps of 17, which its length has no part in common with."""
        return [copy.deepcopy(RISING[number * 17 % len(RISING)]) for number in range(len(RISING))]

    def same(self, one, other):
        self.assertTrue(alike(one, other), (one, other))

    def test_rising(self):
        self.same(in_order(self.mixed()), RISING)
        self.same(in_order(self.mixed(), False), RISING)
        self.same(in_order(self.mixed(), falling=False), RISING)

    def test_falling(self):
        self.same(in_order(self.mixed(), True), RISING[::-1])
        self.same(in_order(self.mixed(), falling=True), RISING[::-1])

    def test_none_and_one(self):
        for falling in (False, True):
            self.assertEqual(in_order([], falling), [])
            self.assertEqual(in_order([[3]], falling), [[3]])

    def test_alike_ones_all_stay(self):
        things = [2, [1], 2, {"a": 1, "b": 2}, [1], {"b": 2, "a": 1}, 1]
        rising = [1, 2, 2, [1], [1], {"a": 1, "b": 2}, {"a": 1, "b": 2}]
        self.same(in_order(things), rising)
        self.same(in_order(things, True), rising[::-1])

    def test_truths_among_numbers(self):
        self.same(in_order([1, True, 0, False]), [False, True, 0, 1])

    def test_what_is_handed_in_stays(self):
        for falling in (False, True):
            things = self.mixed()
            in_order(things, falling)
            self.same(things, self.mixed())

    def test_told_and_spoilt(self):
        for falling in (False, True):
            things = self.mixed()
            wanted = RISING[::-1] if falling else RISING
            spoil(in_order(things, falling))
            self.same(things, self.mixed())
            self.same(in_order(things, falling), wanted)

    def test_handed_in_and_spoilt(self):
        for falling in (False, True):
            things = self.mixed()
            told = in_order(things, falling)
            spoil(things)
            self.same(told, RISING[::-1] if falling else RISING)

    def test_no_list_or_dict_stands_in_it_twice(self):
        row = [1]
        for falling in (False, True):
            things = [row, [row], row, {"a": row}]
            told = in_order(things, falling)
            self.assertEqual(len(set(identities(told))), len(holders(told)))
            self.assertFalse(set(identities(told)) & set(identities(things)))

    def test_of_none_and_one_it_is_a_list_of_its_own(self):
        for falling in (False, True):
            for things in ([], [[]]):
                told = in_order(things, falling)
                self.assertFalse(set(identities(told)) & set(identities(things)))


if __name__ == "__main__":
    unittest.main()
