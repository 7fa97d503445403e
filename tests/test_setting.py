"""[33] to [35] and the row cabinet/setting.py; of [1] what holds of these."""

import copy
import random
import unittest

from cabinet.errors import NoPlace, TooGreat
from cabinet.kinds import alike, is_thing
from cabinet.setting import changed_at, inserted, put, taken
from tests.samples import (BOUNDS, RISING, any_holder, any_path, any_thing, check_own, check_unchanged, nested,
                           nested_records, plainly, sized)


def made():
    return {"b": [1, [True, None], {"c": "x", "a": []}], "a": {"d": {}, "e": [[0], 0]}, "n": None}


def with_b(*row):
    return {"b": list(row), "a": {"d": {}, "e": [[0], 0]}, "n": None}


PAIR = [True, None]
RECORD = {"c": "x", "a": []}

# Of made(): the path, the new thing, what comes.
PUTS = [
    ([], 7, 7),
    ([], [], []),
    ([], made(), made()),
    (["n"], False, {**made(), "n": False}),
    (["n"], 0, {**made(), "n": 0}),
    (["a"], [], {**made(), "a": []}),
    (["b"], None, {**made(), "b": None}),
    (["c"], None, {**made(), "c": None}),
    (["nn"], {"a": 1}, {**made(), "nn": {"a": 1}}),
    (["b", 0], True, with_b(True, PAIR, RECORD)),
    (["b", 1], "new", with_b(1, "new", RECORD)),
    (["b", 2], {}, with_b(1, PAIR, {})),
    (["b", 3], [0], with_b(1, PAIR, RECORD, [0])),
    (["b", 1, 1], 0, with_b(1, [True, 0], RECORD)),
    (["b", 1, 2], 0, with_b(1, [True, None, 0], RECORD)),
    (["b", 2, "c"], None, with_b(1, PAIR, {"c": None, "a": []})),
    (["b", 2, "d"], None, with_b(1, PAIR, {"c": "x", "a": [], "d": None})),
    (["b", 2, "a", 0], 5, with_b(1, PAIR, {"c": "x", "a": [5]})),
    (["a", "d", "d"], [], {**made(), "a": {"d": {"d": []}, "e": [[0], 0]}}),
    (["a", "e", 0, 0], {}, {**made(), "a": {"d": {}, "e": [[{}], 0]}}),
]

INSERTS = [
    (["b", 0], [0], with_b([0], 1, PAIR, RECORD)),
    (["b", 1], 7, with_b(1, 7, PAIR, RECORD)),
    (["b", 2], None, with_b(1, PAIR, None, RECORD)),
    (["b", 3], 7, with_b(1, PAIR, RECORD, 7)),
    (["b", 1, 0], False, with_b(1, [False, True, None], RECORD)),
    (["b", 1, 2], False, with_b(1, [True, None, False], RECORD)),
    (["b", 2, "a", 0], {}, with_b(1, PAIR, {"c": "x", "a": [{}]})),
    (["a", "e", 0, 1], 1, {**made(), "a": {"d": {}, "e": [[0, 1], 0]}}),
]

TAKES = [
    (["n"], {"b": made()["b"], "a": made()["a"]}),
    (["a"], {"b": made()["b"], "n": None}),
    (["a", "d"], {**made(), "a": {"e": [[0], 0]}}),
    (["a", "e", 0], {**made(), "a": {"d": {}, "e": [0]}}),
    (["a", "e", 0, 0], {**made(), "a": {"d": {}, "e": [[], 0]}}),
    (["b", 0], with_b(PAIR, RECORD)),
    (["b", 1], with_b(1, RECORD)),
    (["b", 2], with_b(1, PAIR)),
    (["b", 1, 1], with_b(1, [True], RECORD)),
    (["b", 2, "a"], with_b(1, PAIR, {"c": "x"})),
]

# Of made(): paths that without their last step lead nowhere, and how many steps can be gone.
CUT_SHORT = [
    (["c", "d"], 0),
    (["c", 0], 0),
    ([0, 0], 0),
    (["c", "d", "e", 0, 0, 0, 0, 0], 0),
    (["a", 0, 0], 1),
    (["a", "a", "a"], 1),
    (["n", "a", "a"], 1),
    (["n", 0, 0], 1),
    (["b", "a", 0], 1),
    (["b", 3, 0], 1),
    (["b", 3, "a"], 1),
    (["b", 59, 0], 1),
    (["a", "d", "d", "d"], 2),
    (["a", "d", 0, 0, 0], 2),
    (["a", "e", 2, 0], 2),
    (["b", 0, 0, 0], 2),
    (["b", 2, "d", 0], 2),
    (["a", "e", 0, 1, 0], 3),
    (["a", "e", 0, 0, 0, 0], 4),
]

# Of made(): paths whose last step alone can't be gone, by any of the three.
LAST_STEP = [
    [0],
    ["a", 0],
    ["a", "d", 0],
    ["b", "a"],
    ["b", 4],
    ["b", 59],
    ["b", 0, 0],
    ["b", 0, "a"],
    ["b", 1, "a"],
    ["b", 1, 3],
    ["b", 1, 0, 0],
    ["b", 1, 1, "a"],
    ["b", 2, 0],
    ["b", 2, "c", 0],
    ["b", 2, "c", "x"],
    ["b", 2, "a", 1],
    ["n", "a"],
    ["n", 0],
    ["a", "e", 0, 0, 0],
]
# These can be put, but neither inserted nor taken.
NEW_NAMES = [["c"], ["a", "c"], ["a", "d", "a"], ["b", 2, "d"]]
# These can be put and taken, but not inserted.
OLD_NAMES = [["a"], ["n"], ["a", "d"], ["b", 2, "c"]]
# These can be put and inserted, but not taken.
LENGTHS = [["b", 3], ["b", 1, 2], ["b", 2, "a", 0], ["a", "e", 2], ["a", "e", 0, 1]]

ASKS = {"put": put, "insert": inserted, "take": lambda thing, path, new: taken(thing, path)}


class Case(unittest.TestCase):
    def same(self, one, other):
        self.assertTrue(alike(one, other), (one, other))

    def comes(self, word, thing, path, new, wanted):
        self.same(ASKS[word](thing, path, new), wanted)
        self.same(changed_at(thing, word, path, new), wanted)

    def nowhere(self, word, thing, path, at, new=5):
        for ask in [ASKS[word], lambda whole, steps, part: changed_at(whole, word, steps, part)]:
            refusal = check_unchanged(self, NoPlace, ask, lambda: copy.deepcopy([thing, path, new]))
            self.assertEqual(refusal.at, at, (word, thing, path))


class Put(Case):
    def test_the_empty_path(self):
        for thing in RISING[::5] + BOUNDS:
            for new in RISING + BOUNDS:
                self.same(put(thing, [], new), new)

    def test_what_comes(self):
        for path, new, wanted in PUTS:
            self.comes("put", made(), path, new, wanted)

    def test_every_thing_can_be_put(self):
        for new in RISING:
            self.comes("put", {"a": [1]}, ["a", 0], new, {"a": [new]})
            self.comes("put", {"a": [1]}, ["b"], new, {"a": [1], "b": new})
            self.comes("put", [], [0], new, [new])

    def test_a_rows_places(self):
        row = list(range(10))
        for place in range(10):
            self.comes("put", row, [place], "new", row[:place] + ["new"] + row[place + 1:])
        self.comes("put", row, [10], "new", row + ["new"])
        for place in [11, 12, 59]:
            self.nowhere("put", row, [place], 0)

    def test_the_last_place(self):
        self.comes("put", [0] * 59, [59], 1, [0] * 59 + [1])
        self.comes("put", [0] * 60, [59], 1, [0] * 59 + [1])
        self.nowhere("put", [0] * 58, [59], 0)

    def test_cut_short(self):
        for path, at in CUT_SHORT:
            self.nowhere("put", made(), path, at)

    def test_a_last_step_that_cant_be_gone(self):
        for path in LAST_STEP:
            self.nowhere("put", made(), path, len(path) - 1)

    def test_a_step_from_what_is_neither(self):
        for thing in [None, True, False, 0, 7, "", "abc"]:
            for path in [["a"], [0], [1]]:
                self.nowhere("put", thing, path, 0)
                self.nowhere("put", thing, path + ["a"], 0)
                self.nowhere("put", {"a": thing}, ["a"] + path, 1)
                self.nowhere("put", [thing], [0] + path + [0], 1)

    def test_eight_steps(self):
        self.comes("put", nested(8), [0] * 8, "x", nested(8, "x"))
        self.comes("put", nested(8, "x"), [0] * 8, "y", nested(8, "y"))
        self.nowhere("put", nested(8), [0] * 7 + [1], 7)
        self.nowhere("put", nested(8), [0] * 7 + ["a"], 7)
        self.nowhere("put", nested(7), [0] * 8, 6)
        self.nowhere("put", nested(6), [0] * 8, 5)
        self.nowhere("put", 7, [0] * 8, 0)

    def test_a_missing_name_is_not_made_on_the_way(self):
        self.nowhere("put", {}, ["a", "b"], 0)
        self.nowhere("put", {"a": {}}, ["a", "b", "c"], 1)


class Inserted(Case):
    def test_what_comes(self):
        for path, new, wanted in INSERTS:
            self.comes("insert", made(), path, new, wanted)

    def test_a_rows_places(self):
        for count in [0, 1, 2, 10]:
            row = list(range(count))
            for place in range(count + 1):
                self.comes("insert", row, [place], "new", row[:place] + ["new"] + row[place:])
                self.comes("insert", {"a": row}, ["a", place], "new", {"a": row[:place] + ["new"] + row[place:]})
            for place in [count + 1, count + 2, 59]:
                self.nowhere("insert", row, [place], 0)
                self.nowhere("insert", {"a": row}, ["a", place], 1)

    def test_every_thing_can_be_inserted(self):
        for new in RISING:
            self.comes("insert", [1, 2], [1], new, [1, new, 2])

    def test_of_a_record(self):
        for path in NEW_NAMES + OLD_NAMES:
            self.nowhere("insert", made(), path, len(path) - 1)
        self.nowhere("insert", {"a": 1}, [0], 0)
        self.nowhere("insert", {}, [0], 0)

    def test_the_empty_path(self):
        for thing in RISING:
            self.nowhere("insert", thing, [], 0)

    def test_cut_short(self):
        for path, at in CUT_SHORT:
            self.nowhere("insert", made(), path, at)

    def test_a_last_step_that_cant_be_gone(self):
        for path in LAST_STEP:
            self.nowhere("insert", made(), path, len(path) - 1)

    def test_eight_steps(self):
        self.comes("insert", nested(8, "x"), [0] * 8, "y", nested(7, ["y", "x"]))
        self.nowhere("insert", nested(8, "x"), [0] * 7 + [2], 7)
        self.nowhere("insert", nested(7, "x"), [0] * 8, 7)
        self.nowhere("insert", nested(6, "x"), [0] * 8, 6)


class Taken(Case):
    def test_what_comes(self):
        for path, wanted in TAKES:
            self.comes("take", made(), path, None, wanted)

    def test_a_rows_places(self):
        row = list(range(10))
        for place in range(10):
            self.comes("take", row, [place], None, row[:place] + row[place + 1:])
        for place in [10, 11, 59]:
            self.nowhere("take", row, [place], 0)
        self.comes("take", [0] * 60, [59], None, [0] * 59)

    def test_the_last_one(self):
        self.comes("take", [5], [0], None, [])
        self.comes("take", {"a": 5}, ["a"], None, {})
        self.nowhere("take", [], [0], 0)
        self.nowhere("take", {}, ["a"], 0)

    def test_just_behind_the_end(self):
        for path in LENGTHS:
            self.nowhere("take", made(), path, len(path) - 1)

    def test_a_name_that_isnt_there(self):
        for path in NEW_NAMES:
            self.nowhere("take", made(), path, len(path) - 1)

    def test_the_empty_path(self):
        for thing in RISING:
            self.nowhere("take", thing, [], 0)

    def test_cut_short(self):
        for path, at in CUT_SHORT:
            self.nowhere("take", made(), path, at)

    def test_a_last_step_that_cant_be_gone(self):
        for path in LAST_STEP:
            self.nowhere("take", made(), path, len(path) - 1)

    def test_at_the_bounds(self):
        for thing in BOUNDS:
            if isinstance(thing, list):
                self.comes("take", thing, [0], None, thing[1:])
            if isinstance(thing, dict):
                name = sorted(thing)[0]
                self.comes("take", thing, [name], None, {other: thing[other] for other in thing if other != name})


class Bounds(Case):
    """[35]."""

    def stands(self, word, thing, path, new):
        self.assertTrue(is_thing(ASKS[word](thing, path, new)))
        self.same(ASKS[word](thing, path, new), plainly(thing, word, path, new)[0])

    def too_great(self, word, thing, path, new):
        check_unchanged(self, TooGreat, ASKS[word], lambda: copy.deepcopy([thing, path, new]))
        self.same(changed_at(thing, word, path, new), plainly(thing, word, path, new)[0])

    def test_the_new_thing(self):
        for word, thing, path in [("put", 7, []), ("put", {}, ["a"]), ("put", [1], [0]), ("put", [], [0]),
                                  ("insert", [1], [0]), ("insert", [1], [1])]:
            for number in [10 ** 12, -(10 ** 12)]:
                self.stands(word, thing, path, number)
                self.too_great(word, thing, path, number + (1 if number > 0 else -1))
            self.stands(word, thing, path, "~" * 30)
            self.too_great(word, thing, path, "~" * 31)
            self.stands(word, thing, path, [0] * 60)
            self.too_great(word, thing, path, [0] * 61)
            self.stands(word, thing, path, {"n" + str(number): 0 for number in range(30)})
            self.too_great(word, thing, path, {"n" + str(number): 0 for number in range(31)})
            self.stands(word, thing, path, {"a" * 12: 0})
            self.too_great(word, thing, path, {"a" * 13: 0})

    def test_a_whole_put(self):
        for new, beyond in [(nested(8), nested(9)), (nested_records(8), nested_records(9)), (sized(200), sized(201))]:
            self.stands("put", 7, [], new)
            self.too_great("put", 7, [], beyond)

    def test_a_rows_length(self):
        self.stands("put", [0] * 59, [59], 1)
        for place in [0, 30, 59]:
            self.stands("insert", [0] * 59, [place], 1)
            self.too_great("insert", [0] * 60, [place], 1)
            self.too_great("insert", {"a": [[0] * 60]}, ["a", 0, place], 1)
            self.stands("put", [0] * 60, [place], 1)

    def test_a_records_names(self):
        record = {"n" + str(number): 0 for number in range(29)}
        full = {**record, "x": 0}
        self.stands("put", record, ["x"], 1)
        self.stands("put", full, ["x"], 1)
        self.too_great("put", full, ["y"], 1)
        self.too_great("put", [full], [0, "y"], 1)

    def test_a_name(self):
        self.stands("put", {}, ["a" * 12], 1)
        self.too_great("put", {}, ["a" * 13], 1)

    def test_depth(self):
        for word in ["put", "insert"]:
            self.stands(word, nested(8), [0] * 8, 1)
            self.too_great(word, nested(8), [0] * 8, [])
            self.too_great(word, nested(8), [0] * 8, {})
            self.stands(word, [1], [1], nested(7))
            self.too_great(word, [1], [1], nested(8))
            self.stands(word, nested(4), [0] * 4, nested(4))
            self.too_great(word, nested(4), [0] * 4, nested(5))
        self.stands("put", nested_records(8), ["a"] * 8, 1)
        self.too_great("put", nested_records(8), ["a"] * 8, {})
        self.stands("put", nested_records(8), ["a"] * 7, {})
        self.too_great("put", nested_records(8), ["a"] * 7, {"a": {}})

    def test_size(self):
        for word in ["put", "insert"]:
            self.stands(word, sized(199), [4], 1)
            self.too_great(word, sized(200), [4], 1)
            self.stands(word, [sized(190)], [1], sized(9))
            self.too_great(word, [sized(190)], [1], sized(10))
        self.stands("put", sized(200), [3, 0], 1)
        self.too_great("put", sized(200), [3, 0], [1])
        self.stands("put", sized(200), [0], sized(60))
        self.too_great("put", sized(200), [0], sized(61))

    def test_no_place_ahead_of_too_great(self):
        for beyond in [10 ** 12 + 1, "a" * 31, [0] * 61, nested(9), sized(201)]:
            self.nowhere("put", [], [1], 0, beyond)
            self.nowhere("put", {}, [0], 0, beyond)
            self.nowhere("put", {"a": 1}, ["a", "b"], 1, beyond)
            self.nowhere("put", {"a": 1}, ["b", "b"], 0, beyond)
            self.nowhere("insert", [], [1], 0, beyond)
            self.nowhere("insert", {"a": 1}, ["a"], 0, beyond)
            self.nowhere("insert", {"a": 1}, [], 0, beyond)
            self.nowhere("insert", [[]], [1, 0], 0, beyond)


class ChangedAt(Case):
    def comes_alone(self, thing, word, path, new, wanted):
        self.same(changed_at(thing, word, path, new), wanted)

    def refuses(self, thing, word, path, at):
        refusal = check_unchanged(self, NoPlace, changed_at, lambda: copy.deepcopy([thing, word, path, 5]))
        self.assertEqual(refusal.at, at)

    def test_the_new_thing_left_out(self):
        self.same(changed_at([1, 2], "take", [0]), [2])
        self.same(changed_at([1, 2], "put", [0]), [None, 2])
        self.same(changed_at([1, 2], "insert", [0]), [None, 1, 2])
        self.same(changed_at(7, "put", []), None)

    def test_take_looks_at_no_new_thing(self):
        self.same(changed_at({"a": 1}, "take", ["a"], [1]), {})

    def test_what_comes_is_no_thing(self):
        for beyond in [10 ** 12 + 1, "a" * 31, [0] * 61, {"A": 1}, nested(9), sized(201)]:
            self.comes_alone(7, "put", [], beyond, beyond)
            self.comes_alone({"a": 1}, "put", ["a"], beyond, {"a": beyond})
            self.comes_alone([1], "insert", [0], beyond, [beyond, 1])
        self.comes_alone([0] * 60, "insert", [59], 1, [0] * 59 + [1, 0])
        self.comes_alone(nested(8), "put", [0] * 8, nested(8), nested(16))

    def test_rows_longer_than_sixty(self):
        row = list(range(70))
        for place in [0, 1, 58, 59]:
            self.comes_alone(row, "put", [place], "new", row[:place] + ["new"] + row[place + 1:])
            self.comes_alone(row, "insert", [place], "new", row[:place] + ["new"] + row[place:])
            self.comes_alone(row, "take", [place], None, row[:place] + row[place + 1:])
        deep = [{"a": []} for _ in range(61)]
        self.comes_alone(deep, "put", [59, "a", 0], 1, deep[:59] + [{"a": [1]}] + deep[60:])
        self.comes_alone(deep, "take", [59, "a"], None, deep[:59] + [{}] + deep[60:])

    def test_no_step_leads_beyond_the_sixtieth_place(self):
        for count in [61, 62, 70]:
            for word in ["put", "insert", "take"]:
                for place in [60, 61, count - 1]:
                    self.refuses([0] * count, word, [place], 0)
                    self.refuses({"a": [0] * count}, word, ["a", place], 1)
                    self.refuses([[0]] * count, word, [place, 0], 0)
                    self.refuses([[[0]] * count], word, [0, place, 0, 0], 1)

    def test_what_is_handed_in_is_no_thing(self):
        self.comes_alone(nested(10, "x"), "take", [0] * 8, None, nested(8))
        self.comes_alone({"A": [10 ** 13], "b": 1}, "put", ["b"], 2, {"A": [10 ** 13], "b": 2})
        great = [sized(150), sized(150)]
        self.comes_alone(great, "take", [0], None, [sized(150)])
        self.comes_alone(great, "insert", [1], 5, [sized(150), 5, sized(150)])
        record = {"n" + str(number): 0 for number in range(35)}
        self.comes_alone(record, "put", ["x"], 1, {**record, "x": 1})
        self.refuses(nested(10, "x"), "take", [0, 0, 1], 2)
        self.refuses(great, "put", [3], 0)


class AsToldPlainly(Case):
    def test_of_made_up_things_and_paths(self):
        chance = random.Random(33)
        seen = {"comes": 0, "nowhere": 0}
        for _ in range(6000):
            thing = any_holder(chance)
            path = any_path(chance, thing)
            word = chance.choice(["put", "insert", "take"])
            new = any_thing(chance, 2)
            wanted, at = plainly(thing, word, path, new)
            if at is None:
                self.comes(word, thing, path, new, wanted)
            else:
                self.nowhere(word, thing, path, at, new)
            seen["comes" if at is None else "nowhere"] += 1
        self.assertGreater(min(seen.values()), 1000, seen)


class Own(Case):
    def test_own(self):
        for path, new, _ in PUTS:
            check_own(self, put, lambda: [made(), list(path), copy.deepcopy(new)])
            check_own(self, changed_at, lambda: [made(), "put", list(path), copy.deepcopy(new)])
            check_own(self, put, lambda: [made(), list(path), {"o": [[], {"p": []}]}])
        for path, new, _ in INSERTS:
            check_own(self, inserted, lambda: [made(), list(path), copy.deepcopy(new)])
            check_own(self, changed_at, lambda: [made(), "insert", list(path), copy.deepcopy(new)])
            check_own(self, inserted, lambda: [made(), list(path), {"o": [[], {"p": []}]}])
        for path, _ in TAKES:
            check_own(self, taken, lambda: [made(), list(path)])
            check_own(self, changed_at, lambda: [made(), "take", list(path)])

    def test_own_where_the_new_thing_is_the_very_thing(self):
        def doubled(path):
            thing = made()
            return [thing, list(path), thing]
        for path, _, _ in PUTS:
            check_own(self, put, lambda: doubled(path))
        for path, _, _ in INSERTS:
            check_own(self, inserted, lambda: doubled(path))

    def test_own_where_the_new_thing_is_a_part_of_the_thing(self):
        def doubled(path):
            thing = made()
            return [thing, list(path), thing["b"]]
        for path, _, _ in PUTS:
            check_own(self, put, lambda: doubled(path))
        for path, _, _ in INSERTS:
            check_own(self, inserted, lambda: doubled(path))

    def test_own_where_the_new_thing_is_the_path(self):
        def doubled():
            path = ["b", 0]
            return [made(), path, path]
        check_own(self, put, doubled)
        check_own(self, inserted, doubled)

    def test_own_of_rows_that_stand_in_it_twice(self):
        def doubled(path, *behind):
            row = [1]
            return [{"a": [row, row, {"b": row}], "c": row}, list(path)] + [[row, row] for _ in behind]
        for path in [["a", 0], ["a", 1], ["a", 0, 0], ["c"], ["a", 2, "b"]]:
            check_own(self, put, lambda: doubled(path, "new"))
            check_own(self, taken, lambda: doubled(path))
        check_own(self, inserted, lambda: doubled(["a", 1], "new"))

    def test_own_of_what_is_no_thing(self):
        check_own(self, changed_at, lambda: [[[0] for _ in range(61)], "insert", [5], [[]]])
        check_own(self, changed_at, lambda: [nested(10), "take", [0] * 8])


if __name__ == "__main__":
    unittest.main()
