"""What a thing is, by [10] to [12]: its kind, its bounds, when two are alike, and copies."""

LETTERS = "abcdefghijklmnopqrstuvwxyz"
FIGURES = "0123456789"
NAME_SIGNS = "abcdefghijklmnopqrstuvwxyz0123456789"
MOST_IN_NAME = 12
MOST_IN_TEXT = 30
MOST_IN_ROW = 60
MOST_IN_RECORD = 30
MOST_DEPTH = 8
MOST_SIZE = 200


def kind_of(thing):
    if thing is None:
        return "nothing"
    # Python counts truths among the whole numbers, so they are asked for first.
    if isinstance(thing, bool):
        return "truth"
    if isinstance(thing, int):
        return "number"
    if isinstance(thing, str):
        return "text"
    if isinstance(thing, list):
        return "row"
    if isinstance(thing, dict):
        return "record"
    return None


def is_name(thing):
    if not isinstance(thing, str) or not 1 <= len(thing) <= MOST_IN_NAME:
        return False
    return thing[0] in LETTERS and all([sign in NAME_SIGNS for sign in thing])


def is_text_sign(sign):
    # 37 is the percent sign, which is not to stand in a text of this program's own files.
    return " " <= sign <= "~" and ord(sign) != 37


def is_thing(thing):
    # It goes down level by level and stops at the first bound that is broken:
    # so what is far too great takes no longer than what is just too great.
    level = [thing]
    size = 0
    depth = 0
    while depth <= MOST_DEPTH:
        size += len(level)
        if size > MOST_SIZE or not all([is_sound_outside(part) for part in level]):
            return False
        holders = [part for part in level if holds_parts(part)]
        if not holders:
            return True
        level = parts_of_all(holders)
        depth += 1
    return False


def is_sound_outside(thing):
    kind = kind_of(thing)
    if kind == "number":
        return abs(thing) <= 10 ** 12
    if kind == "text":
        return len(thing) <= MOST_IN_TEXT and all([is_text_sign(sign) for sign in thing])
    if kind == "row":
        return len(thing) <= MOST_IN_ROW
    if kind == "record":
        return len(thing) <= MOST_IN_RECORD and all([is_name(name) for name in thing])
    return kind is not None


def holds_parts(thing):
    return isinstance(thing, (list, dict))


def parts_of(thing):
    if isinstance(thing, dict):
        return list(thing.values())
    return list(thing)


def parts_of_all(holders):
    parts = []
    for holder in holders:
        parts.extend(parts_of(holder))
    return parts


def depth_of(thing):
    if not holds_parts(thing):
        return 0
    return 1 + max([depth_of(part) for part in parts_of(thing)], default=0)


def size_of(thing):
    if not holds_parts(thing):
        return 1
    return 1 + sum([size_of(part) for part in parts_of(thing)])


def alike(one, other):
    # Python's own == takes True for 1, at every depth, so it is asked of one kind alone.
    kind = kind_of(one)
    if kind != kind_of(other):
        return False
    if kind == "row":
        return alike_rows(one, other)
    if kind == "record":
        return alike_records(one, other)
    return one == other


def alike_rows(one, other):
    if len(one) != len(other):
        return False
    return all([alike(part, other[place]) for place, part in enumerate(one)])


def alike_records(one, other):
    if len(one) != len(other):
        return False
    return all([name in other and alike(one[name], other[name]) for name in one])


def copied(thing):
    if isinstance(thing, list):
        return [copied(part) for part in thing]
    if isinstance(thing, dict):
        return dict([(name, copied(part)) for name, part in thing.items()])
    # No tuple is a thing, but what speaks of things is made of tuples with lists in them.
    if isinstance(thing, tuple):
        return tuple([copied(part) for part in thing])
    return thing
