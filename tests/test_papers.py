"""[40], [41] and the row cabinet/papers.py; of [1] what holds of these."""

import copy
import random
import unittest

from cabinet.errors import NoDeed, TooGreat
from cabinet.kinds import alike, is_thing
from cabinet.papers import done, is_paper
from tests.samples import (BOUNDS, RISING, any_holder, any_paper, check_own, check_unchanged, nested, nested_records,
                           sized)

TAKE = ("take", ["a"])


class IsPaper(unittest.TestCase):
    def paper(self, *things):
        for thing in things:
            self.assertIs(is_paper(thing), True, thing)

    def no_paper(self, *things):
        for thing in things:
            self.assertIs(is_paper(thing), False, thing)

    def no_deed(self, *things):
        for thing in things:
            self.no_paper([thing], [TAKE, thing], [thing, TAKE])

    def test_each_deed(self):
        self.paper([], [TAKE], [("put", ["a"], 1)], [("insert", ["a"], 1)])
        self.paper([("put", [], None), ("insert", [0, 59], []), ("take", []), ("take", ["a"] * 8)])

    def test_the_things_in_it(self):
        for thing in RISING + BOUNDS:
            self.paper([("put", [], thing)], [("insert", [3], thing)])

    def test_another_word(self):
        for word in ["", "Put", "put ", "puts", "inserted", "taken", "drop", None, True, 0, ("put",), ["put"], {}, []]:
            self.no_deed((word, ["a"]), (word, ["a"], 1))

    def test_a_word_with_another_count_of_things(self):
        self.no_deed((), ("put",), ("insert",), ("take",), ("put", ["a"]), ("insert", ["a"]))
        self.no_deed(("take", ["a"], 1), ("take", ["a"], None), ("take", ["a"], ["a"]))
        self.no_deed(("put", ["a"], 1, 1), ("insert", ["a"], 1, 1), ("take", ["a"], 1, 1), ("put", ["a"], 1, None))
        self.no_deed((["a"], "take"), (["a"], "put", 1), ("put", 1, ["a"]), (["a"],))

    def test_another_thing_in_a_deeds_stead(self):
        self.no_deed(["take", ["a"]], ["put", ["a"], 1], ["insert", ["a"], 1], [], {}, None, True, 0, "take", "put")
        self.no_deed({"take": ["a"]}, [TAKE], (TAKE,), {0: "take", 1: ["a"]})

    def test_a_path_that_is_none(self):
        for path in ["", "a", None, 0, True, (), ("a",), {}, {"a": 1}, [""], ["A"], ["1a"], ["a" * 13], [None], [True],
                     [False], [-1], [60], [["a"]], [("a",)], ["a"] * 9, [0] * 9]:
            self.no_deed(("put", path, 1), ("insert", path, 1), ("take", path))

    def test_what_is_no_thing(self):
        for thing in [10 ** 12 + 1, -(10 ** 12) - 1, "a" * 31, "\n", (), (1,), [()], [0] * 61, {"A": 1}, {1: 1},
                      {"a" * 13: 1}, {"n" + str(number): 0 for number in range(31)}, nested(9), nested_records(9),
                      sized(201), nested(57)]:
            self.no_deed(("put", ["a"], thing), ("insert", ["a"], thing))

    def test_400_and_401_deeds(self):
        for deed in [TAKE, ("put", [], 1), ("insert", [0], [1])]:
            self.paper([deed] * 399, [deed] * 400)
            self.no_paper([deed] * 401, [deed] * 402)
        self.no_paper([TAKE] * 399 + [["take", ["a"]]])

    def test_what_is_no_list(self):
        self.no_paper(None, True, False, 0, 1, "", "take", (), (TAKE,), TAKE, {}, {0: TAKE}, {"a": 1}, ((TAKE,),))

    def test_nothing_is_changed(self):
        paper = [("put", ["a"], [{}]), TAKE]
        is_paper(paper)
        self.assertEqual(paper, [("put", ["a"], [{}]), ("take", ["a"])])


class Case(unittest.TestCase):
    def same(self, one, other):
        self.assertTrue(alike(one, other), (one, other))

    def refused(self, thing, paper, number):
        refusal = check_unchanged(self, NoDeed, done, lambda: copy.deepcopy([thing, paper]))
        self.assertEqual(refusal.number, number, (thing, paper))

    def too_great(self, thing, paper):
        check_unchanged(self, TooGreat, done, lambda: copy.deepcopy([thing, paper]))


class Done(Case):
    def test_no_deed(self):
        for thing in RISING + BOUNDS:
            self.same(done(thing, []), thing)

    def test_one_deed(self):
        self.same(done({"a": 1}, [("put", ["a"], True)]), {"a": True})
        self.same(done({"a": 1}, [("put", ["b"], [])]), {"a": 1, "b": []})
        self.same(done({"a": 1}, [("put", [], "x")]), "x")
        self.same(done([1, 2], [("put", [0], None)]), [None, 2])
        self.same(done([1, 2], [("put", [2], 3)]), [1, 2, 3])
        self.same(done([1, 2], [("insert", [0], 3)]), [3, 1, 2])
        self.same(done([1, 2], [("insert", [2], 3)]), [1, 2, 3])
        self.same(done([1, 2], [("take", [0])]), [2])
        self.same(done({"a": {"b": 1}}, [("take", ["a", "b"])]), {"a": {}})

    def test_one_behind_the_other(self):
        self.same(done([], [("insert", [0], number) for number in range(5)]), [4, 3, 2, 1, 0])
        self.same(done([], [("put", [number], number) for number in range(5)]), [0, 1, 2, 3, 4])
        self.same(done([1, 2, 3, 4], [("take", [1]), ("take", [1])]), [1, 4])
        self.same(done([1, 2, 3, 4], [("take", [2]), ("take", [1])]), [1, 4])
        self.same(done({"a": 1}, [("put", ["a"], 2), ("put", ["a"], 3)]), {"a": 3})
        self.same(done(7, [("put", [], {}), ("put", ["a"], []), ("insert", ["a", 0], {}), ("put", ["a", 0, "b"], 1)]),
                  {"a": [{"b": 1}]})
        self.same(done({"a": 1}, [("take", ["a"]), ("put", ["b"], [1]), ("take", ["b", 0])]), {"b": []})

    def test_400_deeds(self):
        self.same(done([], [("put", [0], number) for number in range(400)]), [399])
        self.same(done([], [("insert", [0], number) for number in range(60)]), list(range(60))[::-1])
        self.same(done({}, [("put", ["a"], 1), ("take", ["a"])] * 200), {})

    def test_the_number_of_a_deed_that_cant_be_done(self):
        self.refused({"a": 1}, [("take", ["b"])], 0)
        self.refused({"a": 1}, [("take", ["b"]), ("take", ["c"])], 0)
        self.refused({"a": 1}, [("take", ["a"]), ("take", ["a"])], 1)
        self.refused({"a": 1}, [("put", ["a"], 2), ("put", ["b"], 2), ("take", ["c"]), ("take", ["a"])], 2)
        self.refused([], [("put", [0], 1)] * 399 + [("put", [2], 1)], 399)
        self.refused([], [("put", [0], 1)] * 399 + [("put", [0, 0], 1)], 399)

    def test_each_deed_that_cant_be_done(self):
        for thing, deed in [
            (1, ("insert", [], 1)), (1, ("take", [])), ({}, ("insert", [], 1)), ([1], ("take", [])),
            (1, ("put", ["a"], 1)), (1, ("put", [0], 1)), ([], ("put", ["a"], 1)), ({}, ("put", [0], 1)),
            ([], ("put", [1], 1)), ([1], ("put", [2], 1)), ({}, ("put", ["a", "a"], 1)), ([1], ("put", [0, 0], 1)),
            ([], ("insert", [1], 1)), ({"a": 1}, ("insert", ["a"], 1)), ({}, ("insert", [0], 1)),
            ([1], ("insert", [2], 1)), ({"a": 1}, ("insert", ["a", 0], 1)), ({}, ("insert", ["a", 0], 1)),
            ([], ("take", [0])), ([1], ("take", [1])), ({"a": 1}, ("take", ["b"])), ({"a": 1}, ("take", [0])),
            ([1], ("take", ["a"])), ({"a": 1}, ("take", ["a", "a"])), (1, ("take", ["a"])),
        ]:
            self.refused(thing, [deed], 0)
            self.refused(None, [("put", [], thing), deed], 1)
            self.refused(None, [("put", [], 0), ("put", [], thing), deed, ("take", [])], 2)

    def test_no_thing_between(self):
        self.same(done([0] * 60, [("insert", [5], 1), ("take", [0])]), [0] * 4 + [1] + [0] * 55)
        self.same(done([0] * 60, [("insert", [59], 1)] * 5 + [("take", [59])] * 5), [0] * 60)
        self.same(done([0] * 60, [("insert", [59], 1)] * 200 + [("take", [0])] * 200), [1] * 59 + [0])
        record = {"n" + str(number): 0 for number in range(30)}
        self.same(done(record, [("put", ["x"], 1), ("take", ["x"])]), record)
        self.same(done(nested(8), [("put", [0] * 8, nested(8)), ("take", [0] * 8)]), nested(8))
        self.same(done(sized(200), [("put", [0], sized(200)), ("put", [0], 7)]), [7] + sized(200)[1:])
        self.same(done(sized(200), [("insert", [0], sized(200))] * 5 + [("put", [], 7)]), 7)

    def test_deeds_upon_what_is_no_thing(self):
        row = list(range(60))
        self.same(done(row, [("insert", [0], [])] + [("put", [0, 0], 1)] + [("take", [5])]), [[1]] + row[:4] + row[5:])
        self.refused(row, [("insert", [0], 1), ("put", [0, 0], 1)], 1)

    def test_too_great_behind_all_deeds(self):
        self.too_great([0] * 60, [("insert", [5], 1)])
        self.too_great([0] * 60, [("insert", [5], 1), ("put", [0], 5)])
        self.too_great(sized(200), [("put", [4], 1)])
        self.too_great(nested(8), [("put", [0] * 8, [])])
        self.too_great({"n" + str(number): 0 for number in range(30)}, [("put", ["x"], 1)])
        self.too_great([], [("insert", [0], sized(200))] * 400)
        self.same(done([0] * 59, [("insert", [5], 1)]), [0] * 5 + [1] + [0] * 54)
        self.same(done(sized(199), [("put", [4], 1)]), sized(199) + [1])

    def test_no_deed_ahead_of_too_great(self):
        self.refused([0] * 60, [("insert", [5], 1), ("take", ["a"])], 1)
        self.refused(sized(200), [("put", [4], 1), ("put", [4, 0], 1)], 1)

    def test_as_told_plainly(self):
        chance = random.Random(41)
        seen = {"told": 0, "refused": 0}
        for _ in range(1500):
            thing = any_holder(chance)
            paper, wanted, refused = any_paper(chance, thing)
            self.assertTrue(is_thing(wanted))
            self.same(done(thing, paper), wanted)
            for other in refused:
                self.refused(thing, other + [("take", [])], len(other) - 1)
            seen["told"] += len(paper)
            seen["refused"] += len(refused)
        self.assertGreater(min(seen.values()), 500, seen)


class Own(Case):
    def test_own(self):
        for paper in [
            [],
            [("put", [], {"a": [[], {}]})],
            [("put", ["b"], [[], {}])],
            [("put", ["a", 0], {"c": []}), ("insert", ["a", 1], [[1]]), ("take", ["a", 0]), ("put", ["a", 0, 0], [])],
            [("take", ["a"])],
        ]:
            check_own(self, done, lambda: [{"a": [[1], {"b": []}], "c": {}}, copy.deepcopy(paper)])

    def test_own_where_lists_stand_in_what_is_handed_in_twice(self):
        def doubled():
            row = [[]]
            path = ["a", 0]
            thing = {"a": [row, row], "b": row}
            return [thing, [("put", path, row), ("insert", path, row), ("put", ["c"], row), ("put", ["d"], thing),
                            ("put", ["e"], path)]]
        check_own(self, done, doubled)

    def test_own_where_a_deed_stands_in_the_paper_twice(self):
        def doubled():
            deed = ("insert", ["a", 0], [{"b": []}])
            return [{"a": []}, [deed, deed, deed]]
        check_own(self, done, doubled)


if __name__ == "__main__":
    unittest.main()
