"""[20] and the row cabinet/writing.py; [23]; of [1] what holds of written."""

import unittest

from cabinet.kinds import alike, is_thing
from cabinet.reading import read
from cabinet.writing import written
from tests.samples import BOUNDS, RISING, nested, nested_records


class Written(unittest.TestCase):
    def writes(self, thing, text):
        was = repr(thing)
        told = written(thing)
        self.assertIsInstance(told, str)
        self.assertEqual(told, text)
        self.assertEqual(repr(thing), was)

    def test_nothing_and_truths(self):
        self.writes(None, "none")
        self.writes(True, "yes")
        self.writes(False, "no")

    def test_numbers(self):
        self.writes(0, "0")
        self.writes(1, "1")
        self.writes(-1, "-1")
        self.writes(10, "10")
        self.writes(-207, "-207")
        self.writes(10 ** 12, "1000000000000")
        self.writes(-(10 ** 12), "-1000000000000")

    def test_texts(self):
        self.writes("", "''")
        self.writes("a", "'a'")
        self.writes(" ", "' '")
        self.writes("it's", "'it''s'")
        self.writes("'", "''''")
        self.writes("''", "''''''")
        self.writes("'a'", "'''a'''")
        self.writes("none", "'none'")
        self.writes("-1", "'-1'")
        self.writes('"[{,:}]\\n', "'\"[{,:}]\\n'")
        self.writes("~" * 30, "'" + "~" * 30 + "'")
        self.writes("'" * 30, "'" * 62)

    def test_rows(self):
        self.writes([], "[]")
        self.writes([1], "[1]")
        self.writes([1, 2, 3], "[1, 2, 3]")
        self.writes([2, 1, 2], "[2, 1, 2]")
        self.writes([None, True, False, 0, "", [], {}], "[none, yes, no, 0, '', [], {}]")
        self.writes([[]], "[[]]")
        self.writes([[1, [2]], []], "[[1, [2]], []]")

    def test_records(self):
        self.writes({}, "{}")
        self.writes({"a": 1}, "{a: 1}")
        self.writes({"a": 1, "b": 2}, "{a: 1, b: 2}")
        self.writes({"a": {}}, "{a: {}}")
        self.writes({"a": {"b": {"c": None}}}, "{a: {b: {c: none}}}")
        self.writes({"none": True, "yes": False}, "{none: yes, yes: no}")

    def test_names_rise(self):
        self.writes({"b": 1, "a": 2}, "{a: 2, b: 1}")
        self.writes({"b": 1, "a10": 2, "a9": 3, "a": 4, "ab": 5}, "{a: 4, a10: 2, a9: 3, ab: 5, b: 1}")
        self.writes([{"z": {"y": 1, "x": 2}, "c": 3}], "[{c: 3, z: {x: 2, y: 1}}]")

    def test_the_documents_own(self):
        self.writes({"a": [1, -2], "b1": "it's"}, "{a: [1, -2], b1: 'it''s'}")
        self.writes({"b1": "it's", "a": [1, -2]}, "{a: [1, -2], b1: 'it''s'}")

    def test_nested(self):
        self.writes(nested(8), "[" * 8 + "]" * 8)
        self.writes(nested(8, "x"), "[" * 8 + "'x'" + "]" * 8)
        self.writes(nested_records(8), "{a: " * 7 + "{}" + "}" * 7)


class ThereAndBack(unittest.TestCase):
    def test_each(self):
        for thing in RISING + BOUNDS:
            self.assertTrue(is_thing(thing), thing)
            self.assertTrue(alike(read(written(thing)), thing), thing)

    def test_within_rows_and_records(self):
        for thing in RISING:
            for holder in ([thing, thing], {"b": thing, "a": [thing]}, [{"none": {"yes": [thing]}}]):
                self.assertTrue(alike(read(written(holder)), holder), holder)

    def test_every_sign_of_texts(self):
        for number in range(ord(" "), ord("~") + 1):
            if number != 37:
                for thing in (chr(number), "a" + chr(number) * 2, {"a": [chr(number), "'"]}):
                    self.assertTrue(alike(read(written(thing)), thing), thing)

    def test_names_like_words(self):
        thing = {"none": 1, "yes": 2, "no": 3, "n0": None, "y": True, "not": False}
        self.assertTrue(alike(read(written(thing)), thing))


if __name__ == "__main__":
    unittest.main()
