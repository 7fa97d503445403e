"""[43], [44] and the row cabinet/differ.py; of [1] what holds of it."""

import copy
import random
import unittest

from cabinet.differ import apart, difference
from cabinet.errors import CabinetError
from cabinet.kinds import alike, size_of
from cabinet.papers import done, is_paper
from tests.samples import (BOUNDS, RISING, any_deed, any_holder, any_paper, any_thing, check_own, nested,
                           nested_records, plainly, sized)


def shared_names(old, new):
    """Each path of names alone that leads somewhere in both, with what it leads to in each."""
    found = [([], old, new)]
    if isinstance(old, dict) and isinstance(new, dict):
        for name in old:
            if name in new:
                found += [([name] + path, one, other) for path, one, other in shared_names(old[name], new[name])]
    return found


def begins_with(path, beginning):
    return path[:len(beginning)] == beginning


def first_unlike(old, new):
    for place in range(min(len(old), len(new))):
        if not alike(old[place], new[place]):
            return place
    return min(len(old), len(new))


class Case(unittest.TestCase):
    def same(self, one, other):
        self.assertTrue(alike(one, other), (one, other))


class Difference(Case):
    def check(self, old, new):
        paper = difference(old, new)
        self.assertTrue(is_paper(paper), paper)
        self.same(done(old, paper), new)
        self.same(self.done_plainly(old, paper), new)
        self.assertEqual(paper == [], alike(old, new), (old, new))
        self.assertLessEqual(len(paper), size_of(old) + size_of(new))
        for path, one, other in shared_names(old, new):
            for deed in paper:
                self.check_untouched(deed[1], path, one, other)
        return paper

    def check_both_ways(self, one, other):
        self.check(one, other)
        self.check(other, one)

    def done_plainly(self, thing, paper):
        for deed in paper:
            thing, at = plainly(thing, *deed)
            self.assertIsNone(at)
        return thing

    def check_untouched(self, gone, path, one, other):
        told = (gone, path, one, other)
        if alike(one, other):
            self.assertFalse(begins_with(gone, path) or begins_with(path, gone), told)
        elif isinstance(one, dict) and isinstance(other, dict):
            self.assertFalse(begins_with(path, gone), told)
        elif isinstance(one, list) and isinstance(other, list):
            self.assertFalse(begins_with(path, gone), told)
            if begins_with(gone, path):
                self.assertGreaterEqual(gone[len(path)], first_unlike(one, other), told)

    def test_of_each_kind(self):
        for old in RISING:
            for new in RISING:
                self.check(old, new)

    def test_at_the_bounds(self):
        for old in BOUNDS:
            for new in BOUNDS + RISING[::7]:
                self.check_both_ways(old, new)

    def test_truths_are_no_numbers(self):
        self.check_both_ways([0, 1], [False, True])
        self.check_both_ways({"a": 1}, {"a": True})
        self.check_both_ways({"a": [[0]]}, {"a": [[False]]})
        self.check_both_ways(0, False)

    def test_nothing_is_a_thing(self):
        self.check_both_ways({"a": None}, {})
        self.check_both_ways([None], [])
        self.check_both_ways([None, None], [None])
        self.check_both_ways(None, [None])

    def test_names_in_another_order(self):
        self.assertEqual(difference({"a": 1, "b": 2}, {"b": 2, "a": 1}), [])
        self.assertEqual(difference([{"a": 1, "b": [2]}], [{"b": [2], "a": 1}]), [])
        # Things that are alike are told the same deeds, however their names came.
        self.assertEqual(difference({"b": 1, "a": 1}, {"d": 2, "c": 2}), difference({"a": 1, "b": 1}, {"c": 2, "d": 2}))

    def test_records(self):
        old = {"a": 1, "b": {"c": [1, 2], "d": {"e": 1, "f": {}}}, "g": []}
        for new in [
            {},
            {"a": 1},
            {"z": 1},
            {"a": {"c": 1}, "b": [1], "g": {}},
            {**old, "a": 2},
            {**old, "z": {"y": []}},
            {**old, "g": [1]},
            {**old, "b": {}},
            {**old, "b": {"c": [1, 2], "d": {"e": 1, "f": {"x": 0}}}},
            {**old, "b": {"c": [1, 3], "d": {"e": 1, "f": {}}}},
            {**old, "b": {"c": [1, 2], "d": {"f": {}}}},
            {**old, "b": {"d": {"e": 1, "f": []}}, "a": None},
        ]:
            self.check_both_ways(old, new)

    def test_rows(self):
        rows = [[], [1], [2], [1, 2], [2, 1], [1, 1], [1, 1, 1], [1, 2, 3], [2, 3], [1, 3], [3, 2, 1], [0, 1, 2, 3, 4],
                [0, 1, 9, 3, 4], [1, 2, 3, 1, 2, 3], [[1], [2]], [[2], [1]], [[], []], [[[]]], [{"a": 1}, {"a": 2}],
                [{"a": 2}, {"b": 2}], [1, {"a": [1, 2]}, 3], [1, {"a": [2]}, 3, 4], list(range(60)),
                list(range(1, 61)), [[number] for number in range(60)]]
        for old in rows:
            for new in rows:
                self.check(old, new)
                self.check({"a": {"b": old}, "c": 1}, {"a": {"b": new}, "c": 1})
                self.check([7, old, 8], [7, new, 8])

    def test_as_many_deeds_as_can_be(self):
        self.check_both_ways(sized(200), [[1] * len(row) for row in sized(200)])
        self.check_both_ways([[number] for number in range(60)], [[-1 - number] for number in range(60)])
        self.check_both_ways({"n" + str(number): [1, 2] for number in range(30)},
                             {"m" + str(number): [1, 2] for number in range(30)})
        self.check_both_ways({"n" + str(number): [1, 2] for number in range(30)},
                             {"n" + str(number): {"a": 1} for number in range(30)})

    def test_deep(self):
        self.check_both_ways(nested(8, "x"), nested(8, "y"))
        self.check_both_ways(nested(8, "x"), nested(8))
        self.check_both_ways(nested(8), nested(7))
        self.check_both_ways(nested_records(8), nested_records(7))
        self.check_both_ways({"a": nested(7, 1)}, {"a": nested(7, 2)})

    def test_what_is_alike_within_rows_stays(self):
        # The document speaks of paths of names alone; within rows what is alike at both ends stays here, too.
        self.assertEqual(len(difference([1, [], 2, 3], [1, 2, 3])), 1)
        self.assertEqual(len(difference([1, 2, 3], [1, [], 2, 3])), 1)
        self.assertEqual(len(difference([[5, 6], 1, {"a": 1, "b": 2}, 4], [[5, 6], 1, {"a": 1, "b": 3}, 4])), 1)

    def test_of_made_up_things(self):
        chance = random.Random(43)
        for _ in range(1500):
            old, new = any_thing(chance, 4), any_thing(chance, 4)
            self.check(old, new)

    def test_of_things_a_few_deeds_apart(self):
        chance = random.Random(430)
        for _ in range(1500):
            old = any_holder(chance)
            self.check_both_ways(old, any_paper(chance, old)[1])


class OwnDifference(Case):
    def test_own(self):
        old = {"a": [[1], {"b": []}], "c": {"d": [[]]}, "e": 1}
        for new in [old, {}, [], 7, {"a": [[1], {"b": [[]]}, [[]]], "c": {"d": [{}, []], "x": {"y": []}}},
                    {"a": [], "z": [[], {}]}, {"e": {}, "a": {}, "c": []}]:
            check_own(self, difference, lambda: copy.deepcopy([old, new]))
            check_own(self, difference, lambda: copy.deepcopy([new, old]))

    def test_own_where_lists_stand_in_what_is_handed_in_twice(self):
        def doubled():
            row = [[]]
            return [{"a": [row, row], "b": row}, {"a": [[1], row, row, row], "c": row, "d": {"e": row}, "b": [row]}]
        check_own(self, difference, doubled)
        check_own(self, difference, lambda: doubled()[::-1])

    def test_own_where_both_are_one(self):
        def doubled():
            thing = {"a": [[]]}
            return [thing, {"a": [thing, thing["a"]], "b": thing}]
        check_own(self, difference, doubled)
        check_own(self, difference, lambda: doubled()[:1] * 2)


def puts(*paths):
    return [("put", path, 1) for path in paths]


class Apart(Case):
    def told(self, one, other, wanted):
        self.assertIs(apart(one, other), wanted, (one, other))
        self.assertIs(apart(other, one), wanted, (other, one))

    def test_paths_that_are_apart(self):
        for one, other in [
            (["a"], ["b"]),
            (["a"], ["aa"]),
            (["a"], ["b", "a"]),
            (["a", 0], ["b", 0]),
            (["a", 0, "c"], ["b"]),
            (["a", "b"], ["a", "c"]),
            (["a", "b", 0], ["a", "c", 0]),
            ([0, "a"], [0, "b"]),
            ([59, "a", 1], [59, "b", 2, "c"]),
            (["a", 3, "b", "x"], ["a", 3, "c", "x"]),
            (["a"] * 8, ["a"] * 7 + ["b"]),
        ]:
            self.told(puts(one), puts(other), True)

    def test_the_same_path(self):
        for path in [[], ["a"], [0], ["a", "b"], [0, "a", 1]]:
            self.told(puts(path), puts(list(path)), False)

    def test_one_the_beginning_of_the_other(self):
        for path in [["a"], [0], ["a", "b", "c"], [0, 1, 2], ["a", 0, "b", 1]]:
            for count in range(len(path)):
                self.told(puts(path), puts(path[:count]), False)

    def test_unlike_at_a_place(self):
        for one, other in [([0], [1]), ([0, "a"], [1, "b"]), (["a", 0], ["a", 1]), (["a", 0, "b"], ["a", 1, "c"]),
                           ([0, "a"], [1])]:
            self.told(puts(one), puts(other), False)

    def test_unlike_at_a_name_and_a_place(self):
        for one, other in [([0], ["a"]), ([0, "a"], ["a", "b"]), (["a", 0], ["a", "b"]), (["a", "b", "c"], ["a", 1])]:
            self.told(puts(one), puts(other), False)

    def test_the_first_unlike_step_tells(self):
        self.told(puts(["a", 0]), puts(["b", 1]), True)
        self.told(puts([0, "a"]), puts([1, "b"]), False)

    def test_empty_papers(self):
        self.told([], [], True)
        self.told([], puts([]), True)
        self.told([], puts(["a"], [0], []), True)

    def test_each_path_against_each(self):
        self.told(puts(["a"], ["b"]), puts(["c"], ["d"]), True)
        self.told(puts(["a"], ["a"]), puts(["c"], ["c"]), True)
        self.told(puts(["a"], ["b"]), puts(["c"], ["b"]), False)
        self.told(puts(["a"], ["b"], ["c"]), puts(["a"], ["d"], ["e"]), False)
        self.told(puts(["a"], ["b"], ["c"]), puts(["d"], ["e"], ["c", 0]), False)
        self.told(puts(["a"], ["b"]), puts(["c"], []), False)
        self.told(puts(["a", 0], ["a", 1]), puts(["b", 0], ["b", 1]), True)

    def test_all_kinds_of_deeds(self):
        deeds = [("put", ["a"], 1), ("insert", ["a"], 1), ("take", ["a"])]
        for one in deeds:
            for other in deeds:
                self.told([one], [other], False)
                self.told([one], [(other[0], ["b"]) + other[2:]], True)

    def test_what_is_put_is_not_looked_at(self):
        self.told([("put", ["a"], ["b"])], [("put", ["b"], ["a"])], True)
        self.told([("put", ["a"], 1)], [("put", ["a"], 1)], False)

    def test_400_deeds(self):
        self.told(puts(*[["a", "b"]] * 400), puts(*[["a", "c"]] * 400), True)
        self.told(puts(*[["a", "b"]] * 400), puts(*[["a", "c"]] * 399 + [["a", 0]]), False)

    def test_nothing_is_changed(self):
        papers = [puts(["a"], ["b", 0]), puts(["c"], ["d"])]
        apart(*papers)
        self.assertEqual(papers, [puts(["a"], ["b", 0]), puts(["c"], ["d"])])

    def test_outcomes_in_both_turns(self):
        thing = {"a": {"b": [1, 2], "c": [3]}, "d": [{"e": 1, "f": 2}]}
        papers = [[("take", ["a", "b"]), ("put", ["a", "b"], 5)],
                  [("insert", ["a", "c", 0], 1), ("take", ["a", "c", 1])],
                  [("put", ["d", 0, "e"], 7)],
                  [("take", ["d", 0, "f"]), ("put", ["d", 0, "g"], [])]]
        for one in papers:
            for other in papers:
                if one != other:
                    self.told(one, other, True)
                    self.same(done(done(thing, one), other), done(done(thing, other), one))

    def test_outcomes_in_both_turns_of_made_up_papers(self):
        chance = random.Random(44)
        seen = 0
        for _ in range(4000):
            thing = any_holder(chance)
            deeds = [any_deed(chance, thing) for _ in range(20)]
            deeds = [deed for deed in deeds if plainly(thing, *deed)[1] is None]
            count = chance.randrange(1, 3)
            one, other = deeds[:count], deeds[count:count * 2]
            if one and other and apart(one, other):
                try:
                    turns = [done(done(thing, one), other), done(done(thing, other), one)]
                except CabinetError:
                    continue
                self.same(*turns)
                seen += 1
        self.assertGreater(seen, 100)


if __name__ == "__main__":
    unittest.main()
