"""Paths, by [30], and how they are written and read, by [31]."""

from cabinet.errors import BadPath
from cabinet.kinds import FIGURES, MOST_IN_ROW, is_name, kind_of

MOST_STEPS = 8


def is_path(thing):
    if not isinstance(thing, list) or len(thing) > MOST_STEPS:
        return False
    return all([is_name(step) or is_place(step) for step in thing])


def is_place(thing):
    return kind_of(thing) == "number" and 0 <= thing < MOST_IN_ROW


def path_text(path):
    if not path:
        return "."
    text = "".join([step_text(step) for step in path])
    # Each name has its dot ahead; the first step has none.
    return text[1:] if text[0] == "." else text


def step_text(step):
    if isinstance(step, str):
        return "." + step
    return "[" + str(step) + "]"


def read_path(text):
    if text == ".":
        return []
    # With a dot ahead of each place, too, all steps but the first one have one dot ahead.
    dotted = text.replace("[", ".[")
    parts = dotted[1:].split(".") if text[:1] == "[" else dotted.split(".")
    if len(parts) > MOST_STEPS:
        raise BadPath("a path of more than eight steps")
    return [read_step(part) for part in parts]


def read_step(part):
    if is_name(part):
        return part
    figures = part[1:-1]
    if part != "[" + figures + "]" or not writes_place(figures):
        raise BadPath("a step that is no name and no place")
    return int(figures)


def writes_place(figures):
    # The length is asked first: Python itself refuses to make a number of thousands of figures.
    if not 1 <= len(figures) <= 2 or not all([sign in FIGURES for sign in figures]):
        return False
    return figures == str(int(figures)) and is_place(int(figures))
