"""[32], what [30] says of steps, and the row cabinet/reach.py; of [1] what holds of these."""

import copy
import unittest

from cabinet.errors import NoPlace
from cabinet.kinds import alike, size_of
from cabinet.paths import is_path
from cabinet.reach import found_or, has, spots, thing_at
from tests.samples import BOUNDS, RISING, check_own, nested, nested_records, sized


def made():
    return {"b": [1, [True, None], {"c": "x", "a": []}], "a": {"d": {}, "e": [[0], 0]}, "n": None}


# Each path that leads somewhere in made(), with what it leads to, in the order of spots.
LEADS = [
    ([], made()),
    (["a"], {"d": {}, "e": [[0], 0]}),
    (["a", "d"], {}),
    (["a", "e"], [[0], 0]),
    (["a", "e", 0], [0]),
    (["a", "e", 0, 0], 0),
    (["a", "e", 1], 0),
    (["b"], [1, [True, None], {"c": "x", "a": []}]),
    (["b", 0], 1),
    (["b", 1], [True, None]),
    (["b", 1, 0], True),
    (["b", 1, 1], None),
    (["b", 2], {"c": "x", "a": []}),
    (["b", 2, "a"], []),
    (["b", 2, "c"], "x"),
    (["n"], None),
]

# Paths that lead nowhere in made(), with how many steps can be gone.
LEADS_NOT = [
    (["c"], 0),
    (["aa"], 0),
    ([0], 0),
    ([0, 0], 0),
    (["c", "d", "e"], 0),
    (["a", 0], 1),
    (["a", "a"], 1),
    (["a", "d", "d"], 2),
    (["a", "d", 0], 2),
    (["a", "e", 2], 2),
    (["a", "e", "d"], 2),
    (["a", "e", 0, 1], 3),
    (["a", "e", 0, 0, 0], 4),
    (["a", "e", 0, 0, 0, 0, 0, 0], 4),
    (["a", "e", 1, 0], 3),
    (["b", "a"], 1),
    (["b", 3], 1),
    (["b", 59], 1),
    (["b", 3, "a"], 1),
    (["b", 0, 0], 2),
    (["b", 0, "a"], 2),
    (["b", 1, 0, 0], 3),
    (["b", 1, 1, "a"], 3),
    (["b", 1, 2], 2),
    (["b", 2, 0], 2),
    (["b", 2, "d"], 2),
    (["b", 2, "a", 0], 3),
    (["b", 2, "c", 0], 3),
    (["b", 2, "c", "x"], 3),
    (["n", "a"], 1),
    (["n", 0], 1),
]


class Case(unittest.TestCase):
    def same(self, one, other):
        self.assertTrue(alike(one, other), (one, other))

    def nowhere(self, thing, path, at):
        with self.assertRaises(NoPlace, msg=(thing, path)) as caught:
            thing_at(thing, path)
        self.assertEqual(caught.exception.at, at, (thing, path))
        self.assertIs(has(thing, path), False, (thing, path))


class ThingAt(Case):
    def test_the_empty_path(self):
        for thing in RISING + BOUNDS:
            self.same(thing_at(thing, []), thing)

    def test_leads_somewhere(self):
        for path, thing in LEADS:
            self.same(thing_at(made(), path), thing)

    def test_leads_nowhere(self):
        for path, at in LEADS_NOT:
            self.nowhere(made(), path, at)

    def test_things_of_no_depth(self):
        for thing in [None, True, False, 0, 7, "", "abc", [], {}]:
            for path in [["a"], [0], ["a", "b"], [0, 0]]:
                self.nowhere(thing, path, 0)

    def test_eight_steps(self):
        self.same(thing_at(nested(8, "x"), [0] * 8), "x")
        for count in range(8):
            self.same(thing_at(nested(8, "x"), [0] * count), nested(8 - count, "x"))
            self.same(thing_at(nested_records(8), ["a"] * count), nested_records(8 - count))
        self.nowhere(nested_records(8), ["a"] * 8, 7)
        self.nowhere(nested(8), [0] * 8, 7)
        self.nowhere(nested(7), [0] * 8, 6)

    def test_a_rows_end(self):
        row = list(range(60))
        self.same(thing_at(row, [59]), 59)
        self.same(thing_at(row, [0]), 0)
        self.nowhere(row[:-1], [59], 0)
        self.nowhere([1], [1], 0)
        self.nowhere({"a": [1, 2]}, ["a", 2], 1)

    def test_own(self):
        for path, _ in LEADS:
            check_own(self, thing_at, lambda: [made(), list(path)])

    def test_own_of_a_row_that_stands_in_it_twice(self):
        def doubled():
            row = [1]
            return [{"a": [row, row, {"b": row}], "c": row}, ["a"]]
        check_own(self, thing_at, doubled)

    def test_nothing_is_changed_by_what_is_refused(self):
        for path, _ in LEADS_NOT:
            thing = made()
            steps = list(path)
            self.assertRaises(NoPlace, thing_at, thing, steps)
            self.assertEqual(repr((thing, steps)), repr((made(), path)))


class Has(Case):
    def test_somewhere(self):
        for path, _ in LEADS:
            self.assertIs(has(made(), path), True, path)

    def test_nowhere(self):
        for path, _ in LEADS_NOT:
            self.assertIs(has(made(), path), False, path)

    def test_the_empty_path(self):
        for thing in RISING:
            self.assertIs(has(thing, []), True, thing)

    def test_nothing_is_changed(self):
        for path, _ in LEADS + LEADS_NOT:
            thing = made()
            steps = list(path)
            has(thing, steps)
            self.assertEqual(repr((thing, steps)), repr((made(), path)))


class FoundOr(Case):
    def test_somewhere(self):
        for path, thing in LEADS:
            self.same(found_or(made(), path), thing)
            for other in [None, 7, ["other"], {"o": []}]:
                self.same(found_or(made(), path, other), thing)

    def test_nowhere(self):
        for path, _ in LEADS_NOT:
            self.assertIs(found_or(made(), path), None)
            for other in RISING:
                self.same(found_or(made(), path, other), other)
                self.same(found_or(made(), path, other=other), other)

    def test_nothing_is_a_thing_that_is_found(self):
        self.assertIs(found_or(made(), ["n"], 7), None)
        self.assertIs(found_or({"a": False}, ["a"], 7), False)
        self.same(found_or({"a": []}, ["a"], 7), [])

    def test_own_where_it_leads(self):
        for path, _ in LEADS:
            check_own(self, found_or, lambda: [made(), list(path)])
            check_own(self, found_or, lambda: [made(), list(path), {"o": [[]]}])

    def test_own_of_the_other_thing(self):
        for path, _ in LEADS_NOT:
            check_own(self, found_or, lambda: [made(), list(path), {"o": [[], {"p": []}]}])

    def test_own_of_rows_that_stand_in_it_twice(self):
        def doubled(path):
            row = [1]
            return [{"a": [row, row]}, path, [row, {"b": row}, row]]
        check_own(self, found_or, lambda: doubled(["a"]))
        check_own(self, found_or, lambda: doubled(["b"]))


class Spots(Case):
    def test_no_depth(self):
        for thing in [None, True, False, 0, 7, "", "abc"]:
            self.assertEqual(spots(thing), [[]])

    def test_empty(self):
        self.assertEqual(spots([]), [[]])
        self.assertEqual(spots({}), [[]])

    def test_rows(self):
        self.assertEqual(spots([5, 6]), [[], [0], [1]])
        self.assertEqual(spots([[5, 6], [], 7]), [[], [0], [0, 0], [0, 1], [1], [2]])
        self.assertEqual(spots([0] * 60), [[]] + [[place] for place in range(60)])

    def test_names_rise(self):
        self.assertEqual(spots({"b": 1, "a": 2}), [[], ["a"], ["b"]])
        self.assertEqual(spots({"b": {"d": 1, "c": 2}, "a10": 3, "a9": 4, "a": 5}),
                         [[], ["a"], ["a10"], ["a9"], ["b"], ["b", "c"], ["b", "d"]])

    def test_within_one_another(self):
        self.assertEqual(spots(made()), [path for path, _ in LEADS])

    def test_deep(self):
        self.assertEqual(spots(nested(8, "x")), [[0] * count for count in range(9)])
        self.assertEqual(spots(nested_records(8)), [["a"] * count for count in range(8)])

    def test_as_many_as_the_size_and_each_leads_somewhere(self):
        for thing in RISING + BOUNDS + [sized(200)]:
            paths = spots(thing)
            self.assertEqual(len(paths), size_of(thing))
            self.assertEqual(len({repr(path) for path in paths}), len(paths))
            for path in paths:
                self.assertTrue(is_path(path))
                self.assertTrue(has(thing, path))

    def test_own(self):
        for thing in [made(), [], {}, 7, [[1], [1]], nested(8, "x")]:
            check_own(self, spots, lambda: [copy.deepcopy(thing)])


if __name__ == "__main__":
    unittest.main()
