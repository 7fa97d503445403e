"""[30], [31] and the row cabinet/paths.py; of [1] what holds of these."""

import itertools
import unittest

from cabinet.errors import BadPath
from cabinet.paths import is_path, path_text, read_path
from tests.samples import check_own, nested

# Each path with its text.
WRITTEN = [
    ([], "."),
    (["a"], "a"),
    ([0], "[0]"),
    ([9], "[9]"),
    ([10], "[10]"),
    ([59], "[59]"),
    (["a", "b"], "a.b"),
    (["a", 3], "a[3]"),
    ([3, "c"], "[3].c"),
    ([3, 0], "[3][0]"),
    (["a", "b", 3, 0, "c"], "a.b[3][0].c"),
    ([0, "a", 1, "b"], "[0].a[1].b"),
    (["a1", "b2", 10], "a1.b2[10]"),
    (["none", "yes"], "none.yes"),
    (["a" * 12, "z" + "9" * 11], "aaaaaaaaaaaa.z99999999999"),
    (list("abcdefgh"), "a.b.c.d.e.f.g.h"),
    ([59] * 8, "[59]" * 8),
    (["a", 0] * 4, "a[0].a[0].a[0].a[0]"),
]


class IsPath(unittest.TestCase):
    def yes(self, thing):
        self.assertIs(is_path(thing), True, thing)

    def no(self, thing):
        self.assertIs(is_path(thing), False, thing)

    def test_count_of_steps(self):
        for step in ["a", 0, 59]:
            for count in range(9):
                self.yes([step] * count)
            self.no([step] * 9)
            self.no([step] * 100)

    def with_step(self, step):
        return [[step], ["a", step], [step, "a"], [0, step, 0], ["a"] * 7 + [step]]

    def test_steps(self):
        for step in ["a", "z9", "a" * 12, "none", 0, 1, 9, 10, 58, 59]:
            for path in self.with_step(step):
                self.yes(path)

    def test_no_steps(self):
        for step in ["", "a" * 13, "A", "aB", "1", "1a", "a b", "a.b", "[0]", ".", " ", "a\n", 60, 61, -1, -60,
                     10 ** 12, 10 ** 30, True, False, None, [], ["a"], [0], (), ("a",), (0,), {}, {"a": 1}, nested(59)]:
            for path in self.with_step(step):
                self.no(path)

    def test_no_list(self):
        for thing in [None, True, False, 0, 1, "", "a", ".", "a.b", (), ("a",), (0, "a"), {}, {"a": 0}, {0: "a"}]:
            self.no(thing)

    def test_nothing_is_changed(self):
        path = ["a", 0, ["b", {"c": []}]]
        is_path(path)
        self.assertEqual(path, ["a", 0, ["b", {"c": []}]])


class Written(unittest.TestCase):
    def test_path_text(self):
        for path, text in WRITTEN:
            was = list(path)
            told = path_text(path)
            self.assertIsInstance(told, str)
            self.assertEqual(told, text)
            self.assertEqual(path, was)

    def test_read_path(self):
        for path, text in WRITTEN:
            told = read_path(text)
            self.assertIsInstance(told, list)
            self.assertEqual(told, path)
            self.assertTrue(is_path(told), text)

    def test_there_and_back(self):
        steps = ["a", "b1", "a" * 12, 0, 7, 10, 59]
        for count in range(4):
            for path in itertools.product(steps, repeat=count):
                self.assertEqual(read_path(path_text(list(path))), list(path))
        for place in range(60):
            self.assertEqual(path_text(["a", place]), "a[" + str(place) + "]")
            self.assertEqual(read_path("[" + str(place) + "]"), [place])

    def test_own(self):
        for _, text in WRITTEN:
            check_own(self, read_path, lambda: [text])


class NoPath(unittest.TestCase):
    def refused(self, text):
        with self.assertRaises(BadPath, msg=text):
            read_path(text)

    def around(self, step):
        """Texts in which the step stands alone, first, in between, last."""
        return [step, step + "[0]", step + ".a", "a." + step, "a." + step + "[0]", "[0]" + step, "[0]." + step]

    def test_the_empty_text(self):
        self.refused("")

    def test_noughts_ahead(self):
        for figures in ["00", "01", "09", "010", "059", "000", "0" * 50]:
            for text in ["[" + figures + "]", "a[" + figures + "]", "[" + figures + "].a", "[0][" + figures + "][0]"]:
                self.refused(text)

    def test_places_beyond(self):
        for figures in ["60", "61", "99", "100", "1000", "10" * 20, "9" * 4300, "9" * 4301, "9" * 30000]:
            for text in ["[" + figures + "]", "a[" + figures + "]", "[" + figures + "].a", "[0][" + figures + "][0]"]:
                self.refused(text)

    def test_no_figures(self):
        for inside in ["", "-1", "-0", "+1", "a", "1a", "a1", "1.", ".1", "'1'", "1,2", "0x1", "1_0", "[1]", "]", "[",
                       "\u00b2", "\u0663"]:
            for text in ["[" + inside + "]", "a[" + inside + "]", "[" + inside + "].a"]:
                self.refused(text)

    def test_blanks(self):
        for text in [" ", "  ", " .", ". ", " a", "a ", "a .b", "a. b", "a b", "[ 0]", "[0 ]", " [0]", "[0] ", "a [0]",
                     "[0] .a", "[0] [1]", "[1 0]", "[ ]", "\t", "\n", "a\n", "\ta", "[0\n]", "[0]\n", ".\n", "a.\nb"]:
            self.refused(text)

    def test_dots(self):
        for text in ["..", "...", ".a", ".[0]", ".a.b", "a.", "a.b.", "[0].", "a[0].", "a..b", "a..[0]", "a.[0]",
                     "[0].[1]", "[0]..a", "..a", "a..", "[.0]", "[0.]", "[.]"]:
            self.refused(text)

    def test_brackets(self):
        for text in ["[", "]", "[]", "[0", "0]", "[0[1]", "[0]]", "[[0]]", "][", "]0[", "a[", "a]", "a[]", "a[0", "a0]",
                     "a[0]]", "a[[0]", "a.b[", "[0]a", "a[0]b", "[0]0", "[0]1[2]", "a[b]", "{0}", "(0)", "0", "7",
                     "a.0"]:
            self.refused(text)

    def test_nine_steps(self):
        for text in ["a.b.c.d.e.f.g.h.i", "[0]" * 9, "a" + "[0]" * 8, "[0]" * 8 + ".a", "a[0]." * 4 + "a",
                     "a" + ".a" * 10000, "[0]" * 10000]:
            self.refused(text)

    def test_names_that_are_none(self):
        for name in ["A", "aB", "1a", "0", "a_b", "a-b", "a'b", "'a'", "a" * 13, "a:b", "a,b", "~", "#", "a" * 30000]:
            for text in self.around(name):
                self.refused(text)

    def test_read_path_alone_of_what_path_text_tells(self):
        """Every text of up to five of these signs: it is a path's, and written again the same, or is refused."""
        signs = ".[]a06"
        for count in range(6):
            for chosen in itertools.product(signs, repeat=count):
                text = "".join(chosen)
                try:
                    path = read_path(text)
                except BadPath:
                    continue
                self.assertTrue(is_path(path), text)
                self.assertEqual(path_text(path), text)


if __name__ == "__main__":
    unittest.main()
