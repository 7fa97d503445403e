"""[10] to [12] and the row cabinet/kinds.py; of [1] what holds of copied and its like."""

import copy
import unittest

from cabinet.kinds import alike, copied, depth_of, is_name, is_thing, kind_of, size_of
from tests.samples import RISING, holders, identities, nested, nested_records, sized, spoil

SMALL_LETTERS = "abcdefghijklmnopqrstuvwxyz"
ASCII = [chr(number) for number in range(ord(" "), ord("~") + 1) if number != 37]


def names(count):
    return ["n" + str(number) for number in range(count)]


def doubled(depth):
    """Each row holds the same row twice: small to make, far too great to be walked through."""
    thing = []
    for _ in range(depth - 1):
        thing = [thing, thing]
    return thing


class KindOf(unittest.TestCase):
    def test_each_kind(self):
        for thing, kind in [(None, "nothing"), (True, "truth"), (False, "truth"), (0, "number"), (1, "number"),
                            (-7, "number"), ("", "text"), ("a", "text"), ([], "row"), ([1], "row"),
                            ({}, "record"), ({"a": 1}, "record"), ((), None), ((1, 2), None)]:
            self.assertEqual(kind_of(thing), kind, thing)

    def test_whatever_bounds_are_broken(self):
        for thing, kind in [(10 ** 30, "number"), (-(10 ** 30), "number"), ("a" * 1000, "text"), ("\t\n", "text"),
                            ([0] * 500, "row"), ([(1,)], "row"), ({1: 2}, "record"), ({"A": ()}, "record"),
                            (nested(60), "row"), (nested_records(60), "record")]:
            self.assertEqual(kind_of(thing), kind)


class IsName(unittest.TestCase):
    def test_names(self):
        for name in ["a", "z", "a0", "b9", "kind", "a1b2", "z" * 12, "a" + "0" * 11]:
            self.assertIs(is_name(name), True, name)

    def test_each_letter_and_figure(self):
        for letter in SMALL_LETTERS:
            self.assertIs(is_name(letter), True)
            self.assertIs(is_name("a" + letter), True)
        for figure in "0123456789":
            self.assertIs(is_name("a" + figure), True)
            self.assertIs(is_name(figure + "a"), False)
            self.assertIs(is_name(figure), False)

    def test_no_other_sign(self):
        for sign in ASCII + ["\t", "\n"]:
            if sign not in SMALL_LETTERS:
                self.assertIs(is_name(sign), False, sign)
                self.assertIs(is_name(sign + "a"), False, sign)
                self.assertIs(is_name("a" + sign), sign in "0123456789", sign)
                self.assertIs(is_name("a" + sign + "a"), sign in "0123456789", sign)

    def test_length(self):
        self.assertIs(is_name(""), False)
        self.assertIs(is_name("a" * 12), True)
        self.assertIs(is_name("a" * 13), False)

    def test_no_text(self):
        for thing in [None, True, False, 0, 1, [], ["a"], {}, {"a": 1}, (), ("a",)]:
            self.assertIs(is_name(thing), False, thing)


class IsThing(unittest.TestCase):
    def yes(self, thing):
        self.assertIs(is_thing(thing), True, thing)

    def no(self, thing):
        self.assertIs(is_thing(thing), False, thing)

    def within(self, part):
        return [part, [part], {"a": part}, [0, {"a": [1, part]}], {"a": 1, "b": {"c": [part, 2]}}]

    def test_plain_things(self):
        for part in [None, True, False, 0, 1, -1, "", "a", "it's", [], {}]:
            for thing in self.within(part):
                self.yes(thing)

    def test_numbers(self):
        for part in [10 ** 12, -(10 ** 12), 10 ** 12 - 1]:
            for thing in self.within(part):
                self.yes(thing)
        for part in [10 ** 12 + 1, -(10 ** 12) - 1, 10 ** 30]:
            for thing in self.within(part):
                self.no(thing)

    def test_texts(self):
        for sign in ASCII:
            self.yes(sign)
        for thing in self.within("~" * 30):
            self.yes(thing)
        for part in ["~" * 31, "\t", "a\tb", "\n", "a\n", "\x7f", "\x1f", "\xe9"]:
            for thing in self.within(part):
                self.no(thing)

    def test_rows(self):
        for thing in self.within([0] * 60):
            self.yes(thing)
        for thing in self.within([0] * 61):
            self.no(thing)

    def test_records(self):
        for thing in self.within(dict.fromkeys(names(30))):
            self.yes(thing)
        for thing in self.within(dict.fromkeys(names(31))):
            self.no(thing)

    def test_names_of_records(self):
        self.yes({"a" * 12: 1})
        for name in ["", "a" * 13, "A", "aB", "1a", "a b", "a_b", 1, 0, True, None, (), ("a",)]:
            for thing in self.within({name: 1}):
                self.no(thing)
            self.no({"a": 1, name: 2})

    def test_tuples(self):
        for part in [(), (1,), ("a", 1), ([],)]:
            for thing in self.within(part):
                self.no(thing)

    def test_depth(self):
        for thing in [nested(8), nested(8, 5), nested_records(8), [1, "a", nested(7)], {"a": 0, "b": nested(6, {})}]:
            self.yes(thing)
        for thing in [nested(9), nested(9, 5), nested(8, {}), nested_records(9), [1, "a", nested(8)], {"b": nested(8)}]:
            self.no(thing)

    def test_size(self):
        self.yes(sized(200))
        self.no(sized(201))
        self.yes({"a": sized(199)})
        self.no({"a": sized(200)})
        self.yes([[0] * 60, [0] * 60, [0] * 60, [0] * 15])
        self.no([[0] * 60, [0] * 60, [0] * 60, [0] * 16])

    def test_names_count_for_no_size(self):
        full = dict.fromkeys(names(30))
        self.yes({"a": full, "b": full, "c": full, "d": full, "e": full, "f": [0] * 43})
        self.no({"a": full, "b": full, "c": full, "d": full, "e": full, "f": [0] * 44})

    def test_sixty_deep_is_answered(self):
        for thing in [nested(60), nested(60, ()), nested_records(60), doubled(60)]:
            self.no(thing)

    def test_a_row_that_stands_in_it_twice(self):
        row = [1]
        self.yes([row, row])
        self.yes({"a": row, "b": [row]})

    def test_nothing_is_changed(self):
        thing = {"b": [1, {"c": []}], "a": (1, [2])}
        was = copy.deepcopy(thing)
        is_thing(thing)
        self.assertEqual(repr(thing), repr(was))


class DepthAndSize(unittest.TestCase):
    def test_depth(self):
        for thing, depth in [(None, 0), (True, 0), (7, 0), ("abc", 0), ([], 1), ({}, 1), ([1, 2], 1), ({"a": 1}, 1),
                             ([[]], 2), ([{}], 2), ({"a": []}, 2), ({"a": {"b": 1}}, 2), ([[], [[]], 1], 3),
                             ({"a": 1, "b": [{"c": []}], "d": []}, 4), (nested(8), 8), (nested(9), 9),
                             (nested(8, "x"), 8), (nested(60), 60), (nested_records(60), 60)]:
            self.assertEqual(depth_of(thing), depth, thing)

    def test_size(self):
        for thing, size in [(None, 1), (False, 1), (7, 1), ("abc", 1), ([], 1), ({}, 1), ([1, 2], 3),
                            ({"a": 1}, 2), ({"abc": 1, "b": 2}, 3), ([[]], 2), ([[1, 2], {"a": 3}, "x"], 7),
                            ({"a": {"b": {"c": [1, 2, 3]}}}, 7), (sized(200), 200), (sized(201), 201),
                            (nested(60), 60), (nested(60, 1), 61), (nested_records(60), 60)]:
            self.assertEqual(size_of(thing), size, thing)

    def test_is_thing_goes_by_them(self):
        for thing in [nested(8), nested(9), sized(200), sized(201)]:
            self.assertEqual(is_thing(thing), depth_of(thing) <= 8 and size_of(thing) <= 200)

    def test_nothing_is_changed(self):
        thing = {"b": [1, {"c": []}], "a": [2]}
        depth_of(thing)
        size_of(thing)
        self.assertEqual(list(thing.items()), [("b", [1, {"c": []}]), ("a", [2])])


class Alike(unittest.TestCase):
    def unlike(self, one, other):
        self.assertIs(alike(one, other), False, (one, other))
        self.assertIs(alike(other, one), False, (other, one))

    def like(self, one, other):
        self.assertIs(alike(one, other), True, (one, other))
        self.assertIs(alike(other, one), True, (other, one))

    def test_each_with_each(self):
        for place, one in enumerate(RISING):
            for other_place, other in enumerate(copy.deepcopy(RISING)):
                self.assertIs(alike(one, other), place == other_place, (one, other))

    def test_truths_are_no_numbers(self):
        for truth, number in [(True, 1), (False, 0)]:
            self.unlike(truth, number)
            self.unlike([truth], [number])
            self.unlike({"a": truth}, {"a": number})
            self.unlike([1, {"a": [2, truth]}], [1, {"a": [2, number]}])

    def test_unlike_kinds(self):
        self.unlike(None, False)
        self.unlike(None, 0)
        self.unlike(None, "")
        self.unlike("", [])
        self.unlike([], {})
        self.unlike("1", 1)
        self.unlike("a", ["a"])

    def test_rows(self):
        self.like([1, "a", []], [1, "a", []])
        self.unlike([1, 2], [1, 2, 3])
        self.unlike([], [None])
        self.unlike([1, 2], [2, 1])
        self.unlike([1, 2, 3], [1, 5, 3])

    def test_records(self):
        self.like({"a": 1, "b": [2]}, {"b": [2], "a": 1})
        self.like([{"a": {"c": 1, "d": 2}}], [{"a": {"d": 2, "c": 1}}])
        self.unlike({"a": 1}, {"b": 1})
        self.unlike({"a": 1}, {"a": 1, "b": 1})
        self.unlike({"a": None}, {"b": None})
        self.unlike({"a": 1, "b": 2}, {"a": 2, "b": 1})
        self.unlike({"a": None}, {})

    def test_deep(self):
        self.like(nested(8, "x"), nested(8, "x"))
        self.unlike(nested(8, "x"), nested(8, "y"))
        self.unlike(nested(7), nested(8))
        self.like(nested(60), nested(60))

    def test_nothing_is_changed(self):
        one = {"b": [1, {"c": []}], "a": [2]}
        other = {"a": [2], "b": [1, {"c": []}]}
        alike(one, other)
        self.assertEqual(list(one.items()), [("b", [1, {"c": []}]), ("a", [2])])
        self.assertEqual(list(other.items()), [("a", [2]), ("b", [1, {"c": []}])])


class Copied(unittest.TestCase):
    def made(self):
        return {"b": [1, {"c": []}, "x"], "a": {"d": [[True], None]}, "e": -5}

    def test_alike_each(self):
        for thing in RISING + [self.made(), nested(8), nested(60), nested_records(8), sized(200)]:
            self.assertTrue(alike(copied(thing), thing))
            self.assertEqual(repr(copied(thing)), repr(thing))

    def test_no_list_or_dict_of_the_things(self):
        for thing in RISING + [self.made(), nested(8), nested_records(8)]:
            self.assertFalse(set(identities(copied(thing))) & set(identities(thing)))

    def test_what_is_handed_in_stays(self):
        thing = self.made()
        copied(thing)
        self.assertEqual(repr(thing), repr(self.made()))

    def test_told_and_spoilt(self):
        thing = self.made()
        spoil(copied(thing))
        self.assertEqual(thing, self.made())
        self.assertEqual(copied(thing), self.made())

    def test_handed_in_and_spoilt(self):
        thing = self.made()
        told = copied(thing)
        spoil(thing)
        self.assertEqual(told, self.made())

    def test_no_list_or_dict_stands_in_it_twice(self):
        row = [1]
        record = {"a": row}
        told = copied([row, row, record, {"b": record}])
        self.assertEqual(told, [[1], [1], {"a": [1]}, {"b": {"a": [1]}}])
        self.assertEqual(len(set(identities(told))), len(holders(told)))


if __name__ == "__main__":
    unittest.main()
