"""Texts cut into tokens, by [21]."""

from cabinet.errors import BadText
from cabinet.kinds import FIGURES, LETTERS, NAME_SIGNS, is_text_sign

MARKS = "[]{},:"


def tokens(text):
    found = []
    at = run_end(text, 0, " ")
    while at < len(text):
        kind = kind_at(text, at)
        end = token_end(kind, text, at)
        found.append((kind, string_of(kind, text[at:end]), at))
        at = run_end(text, end, " ")
    found.append(("end", "", len(text)))
    return found


def kind_at(text, at):
    sign = text[at]
    if sign == "-" or sign in FIGURES:
        return "number"
    if sign in LETTERS:
        return "word"
    if sign == "'":
        return "text"
    if sign in MARKS:
        return "mark"
    raise BadText("no token begins with this sign", at)


def token_end(kind, text, at):
    if kind == "number":
        return number_end(text, at)
    if kind == "word":
        return run_end(text, at, NAME_SIGNS)
    if kind == "text":
        return text_end(text, at)
    return at + 1


def run_end(text, at, signs):
    end = at
    while end < len(text) and text[end] in signs:
        end += 1
    return end


def number_end(text, at):
    first = at + 1 if text[at] == "-" else at
    end = run_end(text, first, FIGURES)
    if end == first:
        raise BadText("a - without a figure behind it", at)
    return end


def text_end(text, at):
    close = text.find("'", at + 1)
    while close >= 0 and text[close + 1:close + 2] == "'":
        close = text.find("'", close + 2)
    if close < 0:
        raise BadText("a text without an end", at)
    if not all([is_text_sign(sign) for sign in text[at + 1:close]]):
        raise BadText("a text with a sign that no text has", at)
    return close + 1


def string_of(kind, signs):
    if kind == "text":
        return signs[1:-1].replace("''", "'")
    return signs
