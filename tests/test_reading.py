"""[22] and the row cabinet/reading.py; of [1] what holds of read."""

import unittest

from cabinet.errors import BadText, TooGreat
from cabinet.kinds import alike, is_thing, size_of
from cabinet.reading import read
from tests.samples import check_own


def row_of(texts):
    return "[" + ", ".join(texts) + "]"


def record_of(texts):
    return "{" + ", ".join(texts) + "}"


def pairs(count):
    return ["n" + str(number) + ": 0" for number in range(count)]


def things(count):
    """A row of rows, count things in all, without its last bracket; the last row can take more things."""
    full = row_of(["0"] * 59)
    return "[" + full + ", " + full + ", " + full + ", [" + ", ".join(["0"] * (count - 182))


class Case(unittest.TestCase):
    def reads(self, text, thing):
        told = read(text)
        self.assertTrue(alike(told, thing), (text, told))

    def bad(self, text, at):
        with self.assertRaises(BadText, msg=text) as caught:
            read(text)
        self.assertEqual(caught.exception.at, at, text)

    def great(self, text):
        with self.assertRaises(TooGreat, msg=text):
            read(text)


class Things(Case):
    def test_plain_things(self):
        for text, thing in [("none", None), ("yes", True), ("no", False), ("0", 0), ("1", 1), ("10", 10), ("-1", -1),
                            ("-10", -10), ("100", 100), ("''", ""), ("'a'", "a"), ("'it''s'", "it's"), ("''''", "'"),
                            ("' a '", " a "), ("'none'", "none"), ("'['", "["), ("'}'", "}"), ("'0'", "0"),
                            ("','", ","), ("'00'", "00")]:
            self.reads(text, thing)

    def test_rows(self):
        for text, thing in [("[]", []), ("[1]", [1]), ("[1, 2]", [1, 2]), ("[[]]", [[]]), ("[[], {}]", [[], {}]),
                            ("[none, yes, no, 0, '', []]", [None, True, False, 0, "", []]),
                            ("[[1, [2]], 3]", [[1, [2]], 3]), ("[']', '[']", ["]", "["])]:
            self.reads(text, thing)

    def test_records(self):
        for text, thing in [("{}", {}), ("{a: 1}", {"a": 1}), ("{a: 1, b: 2}", {"a": 1, "b": 2}),
                            ("{a: {}}", {"a": {}}), ("{a: {a: {a: 1}}}", {"a": {"a": {"a": 1}}}),
                            ("{none: none, yes: yes, no: no}", {"none": None, "yes": True, "no": False}),
                            ("{a: '}', b: ':'}", {"a": "}", "b": ":"}),
                            ("[{a: 1}, {a: 2}]", [{"a": 1}, {"a": 2}])]:
            self.reads(text, thing)

    def test_the_documents_own(self):
        self.reads("{a: [1, -2], b1: 'it''s'}", {"a": [1, -2], "b1": "it's"})

    def test_names_in_any_order(self):
        self.reads("{b: 1, a: 2}", {"a": 2, "b": 1})
        self.reads("{c: {z: 1, y: 2}, a: 3, b: 4}", {"a": 3, "b": 4, "c": {"y": 2, "z": 1}})

    def test_one_name_in_several_records(self):
        self.reads("{a: {a: 1}, b: {a: 2}}", {"a": {"a": 1}, "b": {"a": 2}})

    def test_blanks(self):
        marks = ["{", "a", ":", "[", "1", ",", "-2", "]", ",", "b1", ":", "'it''s'", ",", "c", ":", "{", "}", "}"]
        thing = {"a": [1, -2], "b1": "it's", "c": {}}
        for count in range(4):
            blanks = " " * count
            self.reads(blanks.join(marks), thing)
            self.reads(blanks + blanks.join(marks) + blanks, thing)
        for plain, thing in [("1", 1), ("yes", True), ("' '", " "), ("[]", []), ("{}", {}), ("[ ]", []), ("{ }", {})]:
            for text in [plain, " " + plain, plain + " ", "   " + plain + "     "]:
                self.reads(text, thing)

    def test_own(self):
        for text in ["[]", "{}", "[[], [], [1], [1]]", "{a: [1], b: [1], c: {a: [1]}}", "[{a: []}, {a: []}]"]:
            check_own(self, read, lambda: [text])


class Refused(Case):
    def test_commas(self):
        self.bad("[,]", 1)
        self.bad("[1,]", 3)
        self.bad("[1, ]", 4)
        self.bad("[,1]", 1)
        self.bad("[1,,2]", 3)
        self.bad("[1 2]", 3)
        self.bad("[1 [2]]", 3)
        self.bad("[[1] 'a']", 5)
        self.bad("{,}", 1)
        self.bad("{a: 1,}", 6)
        self.bad("{,a: 1}", 1)
        self.bad("{a: 1,, b: 2}", 6)
        self.bad("{a: 1 b: 2}", 6)
        self.bad("{a: , b: 2}", 4)
        self.bad(",", 0)
        self.bad("1,", 1)
        self.bad("[1],", 3)

    def test_colons(self):
        self.bad("{a 1}", 3)
        self.bad("{a}", 2)
        self.bad("{a, b}", 2)
        self.bad("{a:: 1}", 3)
        self.bad("{a: 1: 2}", 5)
        self.bad("{: 1}", 1)
        self.bad("[a: 1]", 1)
        self.bad("[1: 2]", 2)
        self.bad("{a: }", 4)
        self.bad(":", 0)

    def test_brackets_that_do_not_close(self):
        self.bad("[", 1)
        self.bad("[1", 2)
        self.bad("[1,", 3)
        self.bad("[1, [2]", 7)
        self.bad("{", 1)
        self.bad("{a", 2)
        self.bad("{a:", 3)
        self.bad("{a: 1", 5)
        self.bad("{a: 1,", 6)
        self.bad("{a: [1}", 6)
        self.bad("[1  ", 4)

    def test_another_bracket_that_closes(self):
        self.bad("[}", 1)
        self.bad("{]", 1)
        self.bad("[1}", 2)
        self.bad("{a: 1]", 5)
        self.bad("{a: [1}, 2]", 6)
        self.bad("[{a: 1]}", 6)
        self.bad("]", 0)
        self.bad("}", 0)

    def test_texts_are_no_marks_and_no_words(self):
        self.bad("['a' ']'", 5)
        self.bad("{a ':' 1}", 3)
        self.bad("{a: 1 ',' b: 2}", 6)
        self.bad("{a: 1 '}'", 6)

    def test_other_words(self):
        for word in ["a", "nothing", "none1", "yess", "n", "true", "false", "null", "a" * 40, "noneyes"]:
            self.bad(word, 0)
            self.bad("[1, " + word + "]", 4)
            self.bad("{a: " + word + "}", 4)

    def test_a_thing_where_a_name_is_due(self):
        for thing in ["1", "-1", "'a'", "[]", "{}", "''"]:
            self.bad("{" + thing + ": 1}", 1)
            self.bad("{a: 1, " + thing + ": 1}", 7)
            self.bad("{" + thing + "}", 1)
        self.bad("{1a: 2}", 1)

    def test_a_name_where_a_thing_is_due(self):
        self.bad("[a]", 1)
        self.bad("{a: b}", 4)
        self.bad("{a: b: 1}", 4)
        self.bad("{a: 1, b: a}", 10)

    def test_noughts_ahead(self):
        for number in ["00", "01", "-0", "-00", "-01", "007", "-007", "0" * 30, "01" + "0" * 30]:
            self.bad(number, 0)
            self.bad("[1, " + number + "]", 4)
            self.bad("{a: " + number + "}", 4)

    def test_a_name_that_the_record_has_already(self):
        self.bad("{a: 1, a: 1}", 7)
        self.bad("{a: 1, b: 2, a: 3}", 13)
        self.bad("{a: 1, b: {c: 1, c: 1}}", 17)
        self.bad("{a: 1, b: {a: 1}, b: 1}", 18)
        self.bad("{a: none, a: 1}", 10)
        self.bad("{a: 1, a", 7)

    def test_what_stands_behind(self):
        self.bad("1 2", 2)
        self.bad("1a", 1)
        self.bad("1-2", 1)
        self.bad("none none", 5)
        self.bad("'a' 'b'", 4)
        self.bad("[] []", 3)
        self.bad("[]]", 2)
        self.bad("{}}", 2)
        self.bad("{a: 1}: 2", 6)
        self.bad("yes   1", 6)
        self.bad("1 none", 2)

    def test_the_end_too_early(self):
        self.bad("", 0)
        self.bad(" ", 1)
        self.bad("     ", 5)

    def test_no_token_behind_tokens_that_can_stand(self):
        for stray in ["A", "_", ".", "-", "- 1", "--1", "'", "'a", "'a''", "\t", "\n", "'\t'", "'a\nb'", "(", '"']:
            self.bad(stray, 0)
            self.bad("  " + stray, 2)
            self.bad("1 " + stray, 2)
            self.bad("[1] " + stray, 4)
            self.bad("[" + stray, 1)
            self.bad("[1" + " " + stray, 3)
            self.bad("[1, " + stray, 4)
            self.bad("{" + stray, 1)
            self.bad("{a " + stray, 3)
            self.bad("{a: " + stray, 4)
            self.bad("{a: 1 " + stray, 6)
            self.bad("{a: 1, " + stray, 7)
            self.bad("[1, " + stray + "]", 4)

    def test_signs_straight_behind(self):
        self.bad("1.5", 1)
        self.bad("noNe", 2)
        self.bad("[1\t]", 2)
        self.bad("[1,\n2]", 3)
        self.bad("1\n", 1)

    def test_no_token_behind_one_that_can_not_stand(self):
        for stray in ["A", "-", "'", "'\t'", "\n"]:
            self.bad("] " + stray, 0)
            self.bad("a " + stray, 0)
            self.bad("01 " + stray, 0)
            self.bad("1 2 " + stray, 2)
            self.bad("[1, , " + stray, 4)
            self.bad("{a: 1, a: " + stray, 7)
            self.bad("{1 " + stray, 1)

    def test_the_first_of_two(self):
        self.bad("[01, a]", 1)
        self.bad("[a, 01]", 1)
        self.bad("{a: 01, a: 1}", 4)


class Bounds(Case):
    def test_numbers(self):
        for number in [10 ** 12, -(10 ** 12), 10 ** 12 - 1, 999999999999]:
            self.reads(str(number), number)
            self.reads("[" + str(number) + "]", [number])
        for number in [10 ** 12 + 1, -(10 ** 12) - 1, 10 ** 13, -(10 ** 13), 10 ** 14, 9999999999999]:
            self.great(str(number))
            self.great("[" + str(number) + "]")
            self.great("{a: " + str(number) + "}")

    def test_numbers_of_many_figures(self):
        for count in [14, 15, 16, 100, 4300, 4301, 19990]:
            self.great("1" * count)
            self.great("-" + "1" * count)
            self.bad("0" + "1" * count, 0)
            self.bad("-0" + "1" * count, 0)

    def test_texts(self):
        self.reads("'" + "a" * 30 + "'", "a" * 30)
        self.great("'" + "a" * 31 + "'")
        self.reads("'" + "''" * 30 + "'", "'" * 30)
        self.great("'" + "''" * 31 + "'")
        self.reads("{a: '" + " " * 30 + "'}", {"a": " " * 30})
        self.great("{a: '" + " " * 31 + "'}")
        self.great("'" + "a" * 19998 + "'")

    def test_names(self):
        self.reads("{" + "a" * 12 + ": 1}", {"a" * 12: 1})
        self.great("{" + "a" * 13 + ": 1}")
        self.great("{b: 1, " + "a" * 13 + ": 1}")
        self.great("{" + "a" * 13)
        self.bad("[" + "a" * 13 + "]", 1)
        self.bad("{b: " + "a" * 13 + "}", 4)

    def test_brackets(self):
        for first, last in [("[", "]"), ("{a: ", "}")]:
            for inside in ["[]", "{}", "[1]", "{a: 1}"]:
                text = first * 7 + inside + last * 7
                self.assertTrue(is_thing(read(text)))
                self.great(first + text + last)
            self.reads(first * 8 + "1" + last * 8, self.deep(first, 8))
            self.great(first * 8 + "[")
            self.great(first * 8 + "{")
            self.bad(first * 8, len(first) * 8)

    def deep(self, first, depth):
        thing = 1
        for _ in range(depth):
            thing = [thing] if first == "[" else {"a": thing}
        return thing

    def test_brackets_side_by_side(self):
        inner = "[" * 7 + "]" * 7
        self.assertTrue(is_thing(read("[" + inner + ", " + inner + ", {a: " + "[" * 6 + "]" * 6 + "}]")))
        self.great("[" + inner + ", [" + inner + "]]")

    def test_rows(self):
        self.reads(row_of(["0"] * 60), [0] * 60)
        for thing in ["0", "none", "'a'", "[", "{", "[]"]:
            self.great("[" + "0, " * 60 + thing)
        self.great(row_of(["0"] * 61))
        self.reads(row_of([row_of(["0"] * 60), row_of(["1"] * 60)]), [[0] * 60, [1] * 60])

    def test_a_comma_behind_sixty(self):
        text = "[" + "0, " * 60
        self.bad(text, len(text))
        self.bad(text + "]", len(text))
        self.bad(text + ",", len(text))

    def test_records(self):
        self.reads(record_of(pairs(30)), {"n" + str(number): 0 for number in range(30)})
        self.great(record_of(pairs(31)))
        text = record_of(pairs(30))[:-1] + ", "
        self.great(text + "x")
        self.great(text + "x 1")
        self.bad(text, len(text))
        self.bad(text + "}", len(text))
        self.bad(text + "1", len(text))
        self.bad(text + "n7", len(text))

    def test_size(self):
        text = things(200)
        self.assertEqual(size_of(read(text + "]]")), 200)
        self.assertTrue(is_thing(read(text + "]]")))
        for thing in ["0", "none", "''", "[", "{", "[]"]:
            self.great(text + ", " + thing)
        self.great(things(201) + "]]")
        self.great(text + "], 0")
        self.great(text + "], {")

    def test_size_of_records(self):
        full = record_of(pairs(30))
        text = "[" + (full + ", ") * 6 + "{" + ", ".join(pairs(12))
        self.assertEqual(size_of(read(text + "}]")), 200)
        self.great(text + ", x: 0")
        self.great(text + ", x: {")
        self.great(text + "}, 0")

    def test_names_are_no_things(self):
        text = "[" + (record_of(pairs(30)) + ", ") * 6 + "{" + ", ".join(pairs(12)) + ", "
        self.bad(text + "x", len(text) + 1)
        self.bad(text + "x:", len(text) + 2)
        self.bad(text + "x: }", len(text) + 3)
        self.bad(text + "x: a", len(text) + 3)

    def test_length(self):
        self.reads("1" + " " * 19999, 1)
        self.reads(" " * 19998 + "[]", [])
        self.bad(" " * 20000, 20000)
        self.bad("A" * 20000, 0)
        self.great("1" + " " * 20000)
        self.great(" " * 20001)
        self.great("A" * 20001)
        self.great("1 2" + " " * 20000)
        self.great("'" * 20001)
        self.great("1" + " " * 19999 + "A")


class TwoRules(Case):
    def test_the_first_one_is_told(self):
        number = str(10 ** 12 + 1)
        text = "'" + "a" * 31 + "'"
        name = "a" * 13
        for great in [number, text, "[" * 9, "{" + name, row_of(["0"] * 61)]:
            self.great("[" + great + " A")
            self.great("[" + great + ", 01]")
            self.great(great + " 1 2")
            self.bad("[01, " + great, 1)
            self.bad("[A, " + great, 1)
            self.bad("[1 " + great, 3)
            self.bad("{a: 1, a: " + great, 7)
            self.bad("1 " + great, 2)

    def test_at_one_token_it_is_bad_text(self):
        behind_sixty = "[" + "0, " * 60
        for token in ["]", "}", ",", ":", "a", "a" * 13, "01", "-0", "0" + "9" * 20, "A", "'", "-", "'\t'"]:
            self.bad(behind_sixty + token, len(behind_sixty))
            self.bad(things(200) + ", " + token, len(things(200)) + 2)
            if token not in ("]", "}"):
                self.bad("[" * 8 + token, 8)
        behind_thirty = record_of(pairs(30))[:-1] + ", "
        for token in ["n0", "n29", "]", "}", ",", ":", "1", "'a'", "[", "{", "A", "'", "-", str(10 ** 13),
                      "'" + "a" * 31 + "'"]:
            self.bad(behind_thirty + token, len(behind_thirty))

    def test_what_can_not_stand_is_too_great_besides(self):
        self.bad("1 " + str(10 ** 13), 2)
        self.bad("{" + str(10 ** 13), 1)
        self.bad("{a " + "a" * 13, 3)
        self.bad("{'" + "a" * 31 + "'", 1)
        self.bad("[" * 8 + "]" + "[", 9)
        self.bad("'" + "a" * 31, 0)
        self.bad("'" + "a" * 31 + "\t'", 0)

    def test_closing_brackets_within_eight(self):
        self.reads("[" * 8 + "]" * 8, [[[[[[[[]]]]]]]])
        self.bad("[" * 8 + "}", 8)
        self.bad("{a: " * 8 + "]", 32)


if __name__ == "__main__":
    unittest.main()
