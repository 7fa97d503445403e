"""[42] and the row cabinet/backs.py; of [1] what holds of it."""

import copy
import random
import unittest

from cabinet.backs import back
from cabinet.errors import NoDeed, TooGreat
from cabinet.kinds import alike, is_thing
from cabinet.papers import done, is_paper
from tests.samples import (BOUNDS, RISING, any_deed, any_holder, any_paper, any_thing, check_own, check_unchanged,
                           leads, nested, plainly, sized)

# A row that is no thing, made at ["a"] of any record: nine rows deep, and more.
DEEPER = [("put", ["a"], nested(8)), ("put", ["a"] + [0] * 7, nested(8))]


def gone_by(stand, deed):
    """A list of what a put covers or a take takes: of one thing, or of none."""
    holder, last = [stand], 0
    for step in deed[1]:
        holder, last = holder[last], step
    return [holder[last]] if deed[0] != "insert" and leads(holder, last) else []


class Case(unittest.TestCase):
    def same(self, one, other):
        self.assertTrue(alike(one, other), (one, other))

    def there_and_back(self, thing, paper):
        told = back(thing, paper)
        self.assertTrue(is_paper(told), (thing, paper, told))
        self.assertEqual(len(told), len(paper))
        self.same(done(done(thing, paper), told), thing)
        return told

    def no_deed(self, thing, paper, number):
        refusal = check_unchanged(self, NoDeed, back, lambda: copy.deepcopy([thing, paper]))
        self.assertEqual(refusal.number, number)

    def too_great(self, thing, paper):
        check_unchanged(self, TooGreat, back, lambda: copy.deepcopy([thing, paper]))


class ThereAndBack(Case):
    def test_no_deed(self):
        for thing in RISING + BOUNDS:
            self.assertEqual(back(thing, []), [])

    def test_a_whole_put(self):
        for thing in RISING + BOUNDS:
            for new in [None, True, 1, "x", [], {"a": 1}]:
                self.there_and_back(thing, [("put", [], new)])

    def test_each_deed(self):
        thing = {"a": [1, [True], {"b": None}], "c": {}, "d": 0}
        for deed in [
            ("put", ["a"], 1), ("put", ["d"], False), ("put", ["d"], 0), ("put", ["e"], []), ("put", ["c", "a"], 1),
            ("put", ["a", 0], True), ("put", ["a", 1], {}), ("put", ["a", 2, "b"], 0), ("put", ["a", 2, "c"], 0),
            ("put", ["a", 3], 1), ("put", ["a", 1, 0], 1), ("put", ["a", 1, 1], 1),
            ("insert", ["a", 0], 1), ("insert", ["a", 1], [True]), ("insert", ["a", 3], 1), ("insert", ["a", 1, 1], 1),
            ("take", ["a"]), ("take", ["d"]), ("take", ["a", 0]), ("take", ["a", 1]), ("take", ["a", 2]),
            ("take", ["a", 1, 0]), ("take", ["a", 2, "b"]), ("take", ["c"]),
        ]:
            told = self.there_and_back(thing, [deed])
            self.same(done(done(thing, [deed]), told), thing)

    def test_nothing_that_was_there_comes_back(self):
        self.there_and_back({"a": None}, [("put", ["a"], 1)])
        self.there_and_back([None], [("put", [0], 1)])
        self.there_and_back({"a": None}, [("take", ["a"])])
        self.there_and_back([None, 1], [("take", [0])])

    def test_at_the_bounds(self):
        self.there_and_back([0] * 59, [("put", [59], 1)])
        self.there_and_back([0] * 59, [("insert", [59], 1)])
        self.there_and_back([0] * 60, [("take", [59])])
        self.there_and_back([0] * 60, [("put", [59], 1)])
        self.there_and_back(nested(8), [("put", [0] * 8, 1)])
        self.there_and_back(nested(8, "x"), [("take", [0] * 8)])
        self.there_and_back(sized(200), [("put", [], sized(200))])

    def test_one_behind_the_other(self):
        self.there_and_back({"a": 1}, [("take", ["a"]), ("put", ["b"], 2), ("put", ["b"], 3), ("put", ["a"], [])])
        self.there_and_back([1, 2, 3], [("take", [0]), ("take", [0]), ("insert", [0], 5), ("put", [2], 6)])
        self.there_and_back(7, [("put", [], []), ("insert", [0], 1), ("put", [1], {}), ("put", [1, "a"], 2),
                                ("take", [0]), ("put", [0, "a"], 3), ("put", [], 8)])

    def test_400_deeds(self):
        self.there_and_back([], [("insert", [0], number) for number in range(60)])
        self.there_and_back([], [("put", [0], number) for number in range(400)])
        self.there_and_back({"a": 1}, [("take", ["a"]), ("put", ["a"], [])] * 200)
        self.there_and_back([0] * 60, [("insert", [59], 1)] * 200 + [("take", [0])] * 200)

    def test_back_again(self):
        thing = {"a": [1, 2], "b": {}}
        paper = [("take", ["a", 0]), ("put", ["b", "c"], 1), ("put", ["a"], 7), ("insert", [], 1)][:3]
        told = back(thing, paper)
        self.same(done(thing, back(done(thing, paper), told)), done(thing, paper))

    def test_of_made_up_papers(self):
        chance = random.Random(42)
        seen = {"told": 0, "refused": 0}
        for _ in range(1500):
            thing = any_holder(chance)
            paper, _, refused = any_paper(chance, thing)
            self.there_and_back(thing, paper)
            for other in refused:
                self.no_deed(thing, other, len(other) - 1)
            seen["told"] += len(paper)
            seen["refused"] += len(refused)
        self.assertGreater(min(seen.values()), 500, seen)


class Refused(Case):
    def test_no_deed(self):
        self.no_deed({"a": 1}, [("take", ["b"])], 0)
        self.no_deed({"a": 1}, [("take", [])], 0)
        self.no_deed({"a": 1}, [("take", ["a"]), ("take", ["a"]), ("take", ["c"])], 1)
        self.no_deed([], [("put", [0], 1)] * 399 + [("insert", [2], 1)], 399)

    def test_too_great_behind_all_deeds(self):
        self.too_great([0] * 60, [("insert", [5], 1)])
        self.too_great(sized(200), [("put", [4], 1)])
        self.too_great(nested(8), [("put", [0] * 8, [])])

    def test_what_a_put_covered_is_no_thing(self):
        for new in [7, nested(2), None]:
            paper = DEEPER + [("put", ["a"], new)]
            self.same(done({}, paper), {"a": new})
            self.too_great({}, paper)
            self.too_great({"a": 1}, paper + [("put", ["a"], 1)])

    def test_what_a_take_took_is_no_thing(self):
        self.same(done({}, DEEPER + [("take", ["a"])]), {})
        self.too_great({}, DEEPER + [("take", ["a"])])
        row = [("insert", [0], nested(8)), ("put", [0] * 8, nested(8)), ("take", [0])]
        self.same(done([1], row), [1])
        self.too_great([1], row)

    def test_a_whole_that_was_covered_is_no_thing(self):
        for thing, paper in [([0] * 60, [("insert", [0], 1)]), (sized(200), [("put", [4], 1)]), ({}, DEEPER)]:
            self.same(done(thing, paper + [("put", [], 7)]), 7)
            self.too_great(thing, paper + [("put", [], 7)])

    def test_too_wide_and_too_many(self):
        wide = [("insert", ["a", 0], 1)]
        self.too_great({"a": [0] * 60}, wide + [("take", ["a"])])
        self.too_great({"a": [0] * 60}, wide + [("put", ["a"], 1)])
        names = {"n" + str(number): 0 for number in range(30)}
        self.too_great({"a": names}, [("put", ["a", "x"], 1), ("take", ["a"])])

    def test_no_deed_ahead_of_too_great(self):
        self.no_deed({}, DEEPER + [("take", ["a"]), ("take", ["a"])], 3)
        self.no_deed([0] * 60, [("insert", [0], 1), ("put", [], 7), ("insert", [], 7)], 2)


class NotRefused(Case):
    """What stands between is no thing, but what was covered or taken is one."""

    def test_the_whole_is_no_thing(self):
        self.there_and_back([0] * 60, [("insert", [0], 1), ("take", [5])])
        self.there_and_back([0] * 60, [("insert", [0], 1), ("put", [59], [2]), ("take", [59])])
        self.there_and_back([0] * 60, [("insert", [0], 1)] * 100 + [("take", [0])] * 100)
        self.there_and_back(sized(200), [("put", [4], 1), ("put", [0], 5)])
        self.there_and_back({"a": 1}, [("put", ["a"], nested(8)), ("put", ["a"], 2)])
        self.there_and_back({"a": 1}, [("put", ["a"], nested(8)), ("take", ["a"])])
        self.there_and_back({}, DEEPER + [("take", ["a"] + [0] * 7), ("put", ["a"], 1)])

    def test_what_an_insert_moved_on(self):
        # What is no thing moves on, and is a thing again by what is put into it: it is neither covered nor taken.
        deeper = [("put", [0], nested(8)), ("put", [0] * 8, nested(8))]
        self.there_and_back([0], deeper + [("insert", [0], 5), ("put", [1] + [0] * 7, 3)])
        self.there_and_back([0, 1], deeper + [("take", [1]), ("put", [0] * 8, 3)])

    def test_just_where_something_gone_is_no_thing(self):
        chance = random.Random(420)
        seen = {"told": 0, "refused": 0}
        for _ in range(1500):
            thing = {"a": any_thing(chance, 2), "b": any_thing(chance, 2)}
            paper, stand, sound = self.doable(thing, self.made_up_paper(chance, thing))
            if is_thing(stand) and sound:
                self.there_and_back(thing, paper)
                seen["told"] += 1
            elif is_thing(stand):
                self.too_great(thing, paper)
                seen["refused"] += 1
        self.assertGreater(min(seen.values()), 40, seen)

    def made_up_paper(self, chance, thing):
        """Great things are put in, and great ones covered or taken; at the end what is too great is gone as a rule."""
        great = [sized(120), nested(7), [0] * 60, {"a": sized(70), "b": nested(6)}, 7, {"a": [1]}]
        paper = []
        for _ in range(chance.randrange(2, 9)):
            deed = any_deed(chance, self.doable(thing, paper)[1])
            paper.append(deed if deed[0] == "take" else (deed[0], deed[1], copy.deepcopy(chance.choice(great))))
        return paper + [chance.choice([("take", [name]), ("put", [name], 1)]) for name in ["a", "b"]]

    def doable(self, thing, paper):
        """The deeds that can be done, what comes of them, and whether all that they cover or take is a thing."""
        found, sound = [], True
        for deed in paper:
            after, at = plainly(thing, *deed)
            if at is None:
                found.append(deed)
                sound = sound and all([is_thing(gone) for gone in gone_by(thing, deed)])
                thing = after
        return found, thing, sound


class Own(Case):
    def test_own(self):
        for paper in [
            [],
            [("put", [], [])],
            [("put", ["a"], {})],
            [("put", ["e"], {})],
            [("take", ["a", 0]), ("take", ["a", 0]), ("take", ["c"])],
            [("insert", ["a", 0], [[]]), ("put", ["a", 0, 0], [1]), ("take", ["a", 0])],
        ]:
            check_own(self, back, lambda: [{"a": [[1], {"b": []}], "c": {"d": [[]]}}, copy.deepcopy(paper)])

    def test_own_where_lists_stand_in_what_is_handed_in_twice(self):
        def doubled():
            row = [[]]
            path = ["a", 0]
            thing = {"a": [row, row], "b": row}
            return [thing, [("put", path, row), ("take", path), ("insert", path, row), ("put", path, thing),
                            ("take", ["b"]), ("take", ["a"]), ("put", [], row), ("put", [], path)]]
        check_own(self, back, doubled)

    def test_own_where_a_deed_stands_in_the_paper_twice(self):
        def doubled():
            deed = ("put", ["a"], [{"b": []}])
            return [{"a": []}, [deed, deed, deed]]
        check_own(self, back, doubled)


if __name__ == "__main__":
    unittest.main()
