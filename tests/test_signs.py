"""[21] and the row cabinet/signs.py."""

import unittest

from cabinet.errors import BadText
from cabinet.signs import tokens


class Tokens(unittest.TestCase):
    def cut(self, text, *wanted):
        told = tokens(text)
        self.assertEqual(told, list(wanted) + [("end", "", len(text))], text)
        self.assertIsInstance(told, list)
        for token in told:
            self.assertIsInstance(token, tuple)

    def test_end(self):
        self.cut("")
        self.cut(" ")
        self.cut("     ")

    def test_numbers(self):
        for number in ["0", "7", "10", "007", "00", "-1", "-0", "-007", "0123456789", "9" * 50, "-" + "9" * 50]:
            self.cut(number, ("number", number, 0))

    def test_words(self):
        for word in ["a", "none", "yes", "no", "abc123", "a1b2", "z", "a" * 40, "abcdefghijklmnopqrstuvwxyz0123456789"]:
            self.cut(word, ("word", word, 0))

    def test_marks(self):
        for mark in "[]{},:":
            self.cut(mark, ("mark", mark, 0))
        self.cut("[]{},:", ("mark", "[", 0), ("mark", "]", 1), ("mark", "{", 2), ("mark", "}", 3), ("mark", ",", 4),
                 ("mark", ":", 5))

    def test_texts(self):
        self.cut("'abc'", ("text", "abc", 0))
        self.cut("''", ("text", "", 0))
        self.cut("' '", ("text", " ", 0))
        self.cut("'  a  '", ("text", "  a  ", 0))
        self.cut("'it''s'", ("text", "it's", 0))
        self.cut("''''", ("text", "'", 0))
        self.cut("''''''", ("text", "''", 0))
        self.cut("'a'''", ("text", "a'", 0))
        self.cut("'''a'", ("text", "'a", 0))
        self.cut("'a''b''c'", ("text", "a'b'c", 0))
        self.cut("'[1, -2]: {A_~'", ("text", "[1, -2]: {A_~", 0))
        self.cut("'" + "x" * 100 + "'", ("text", "x" * 100, 0))

    def test_every_sign_of_texts(self):
        for number in range(ord(" "), ord("~") + 1):
            if chr(number) not in "'" and number != 37:
                self.cut("'" + chr(number) + "'", ("text", chr(number), 0))

    def test_several_texts(self):
        self.cut("'a' 'b'", ("text", "a", 0), ("text", "b", 4))
        self.cut("'' ''", ("text", "", 0), ("text", "", 3))
        self.cut("'a''b'", ("text", "a'b", 0))
        self.cut("'it''s','b'", ("text", "it's", 0), ("mark", ",", 7), ("text", "b", 8))

    def test_no_blank_between(self):
        self.cut("1a", ("number", "1", 0), ("word", "a", 1))
        self.cut("a-1", ("word", "a", 0), ("number", "-1", 1))
        self.cut("1-2-3", ("number", "1", 0), ("number", "-2", 1), ("number", "-3", 3))
        self.cut("12ab3'x'4", ("number", "12", 0), ("word", "ab3", 2), ("text", "x", 5), ("number", "4", 8))
        self.cut("a'x'b", ("word", "a", 0), ("text", "x", 1), ("word", "b", 4))
        self.cut("{a:[1,-2]}", ("mark", "{", 0), ("word", "a", 1), ("mark", ":", 2), ("mark", "[", 3),
                 ("number", "1", 4), ("mark", ",", 5), ("number", "-2", 6), ("mark", "]", 8), ("mark", "}", 9))

    def test_blanks(self):
        self.cut("  7", ("number", "7", 2))
        self.cut("7   ", ("number", "7", 0))
        self.cut("  a   1  ", ("word", "a", 2), ("number", "1", 6))
        self.cut("1 2", ("number", "1", 0), ("number", "2", 2))
        self.cut("a b", ("word", "a", 0), ("word", "b", 2))
        self.cut(" [ ] ", ("mark", "[", 1), ("mark", "]", 3))
        self.cut("1 -2", ("number", "1", 0), ("number", "-2", 2))

    def test_the_documents_own(self):
        self.cut("{a: [1, -2], b1: 'it''s'}", ("mark", "{", 0), ("word", "a", 1), ("mark", ":", 2), ("mark", "[", 4),
                 ("number", "1", 5), ("mark", ",", 6), ("number", "-2", 8), ("mark", "]", 10), ("mark", ",", 11),
                 ("word", "b1", 13), ("mark", ":", 15), ("text", "it's", 17), ("mark", "}", 24))

    def test_tokens_need_make_no_sense(self):
        self.cut("]:a,", ("mark", "]", 0), ("mark", ":", 1), ("word", "a", 2), ("mark", ",", 3))

    def test_told_is_the_askers_own(self):
        told = tokens("[1]")
        told.append("spoilt")
        self.assertEqual(tokens("[1]"), [("mark", "[", 0), ("number", "1", 1), ("mark", "]", 2), ("end", "", 3)])

    def test_long_texts(self):
        self.assertEqual(len(tokens("[" * 30000)), 30001)
        self.assertEqual(tokens("'" * 30000), [("text", "'" * 14999, 0), ("end", "", 30000)])
        self.assertEqual(tokens(" " * 30000), [("end", "", 30000)])


class Refused(unittest.TestCase):
    def refused(self, text, at):
        with self.assertRaises(BadText) as caught:
            tokens(text)
        self.assertEqual(caught.exception.at, at, text)

    def test_other_signs(self):
        for number in range(ord(" "), ord("~") + 1):
            sign = chr(number)
            if number != 37 and sign not in " -'[]{},:0123456789abcdefghijklmnopqrstuvwxyz":
                self.refused(sign, 0)
                self.refused("a " + sign + " b", 2)
                self.refused("ab" + sign, 2)
                self.refused("12" + sign + "3", 2)

    def test_great_letters(self):
        self.refused("A", 0)
        self.refused("aB", 1)
        self.refused("[1, None]", 4)

    def test_tabs_and_line_feeds(self):
        for sign in "\t\n":
            self.refused(sign, 0)
            self.refused("  " + sign, 2)
            self.refused("a" + sign, 1)
            self.refused("1" + sign + "2", 1)
            self.refused("[1, " + sign + "2]", 4)

    def test_a_minus_without_a_figure(self):
        self.refused("-", 0)
        self.refused("- 1", 0)
        self.refused("--1", 0)
        self.refused("-a", 0)
        self.refused("1-", 1)
        self.refused("[1, -]", 4)
        self.refused("-1 -", 3)
        self.refused("-'1'", 0)

    def test_a_text_without_an_end(self):
        self.refused("'", 0)
        self.refused("'abc", 0)
        self.refused("'''", 0)
        self.refused("'a''", 0)
        self.refused("'''''", 0)
        self.refused("[1, 'abc]", 4)
        self.refused("'a' 'b", 4)
        self.refused("a'", 1)

    def test_a_text_with_a_sign_that_no_text_has(self):
        for sign in "\t\n":
            self.refused("'" + sign + "'", 0)
            self.refused("'abc" + sign + "d'", 0)
            self.refused("  'abc" + sign + "' 1", 2)
            self.refused("'a' 'b''" + sign + "'", 4)
            self.refused("[1, '" + sign, 4)

    def test_the_first_of_several(self):
        self.refused("A 'b", 0)
        self.refused("'b\t' A", 0)
        self.refused("1 - A", 2)
        self.refused("1 A -", 2)


if __name__ == "__main__":
    unittest.main()
