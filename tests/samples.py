"""What several tests use: deep things, and ways to look into values and to spoil them."""


def nested(depth, inside=None):
    """A row within a row and so on, depth deep; inside stands in the innermost one, if told."""
    thing = [] if inside is None else [inside]
    for _ in range(depth - 1):
        thing = [thing]
    return thing


def nested_records(depth):
    thing = {}
    for _ in range(depth - 1):
        thing = {"a": thing}
    return thing


def sized(size):
    """A row of rows, depth 2, of the size told, at most 60 things in each row."""
    left = size - 1
    rows = []
    while left > 0:
        row_size = min(left, 60)
        rows.append([0] * (row_size - 1))
        left -= row_size
    return rows


def holders(value):
    """All lists and dicts in a value, at every depth, also within tuples."""
    found = []
    if isinstance(value, (list, dict)):
        found.append(value)
    if isinstance(value, dict):
        value = list(value.values())
    if isinstance(value, (list, tuple)):
        for part in value:
            found.extend(holders(part))
    return found


def identities(value):
    return [id(holder) for holder in holders(value)]


def spoil(value):
    """Changes every list and dict in a value."""
    for holder in holders(value):
        if isinstance(holder, list):
            holder.append("spoilt")
        else:
            holder["spoilt"] = "spoilt"


def check_own(case, ask, make):
    """[1], of ask with the arguments that make tells, anew at each call."""
    wanted = repr(ask(*make()))
    handed = make()
    told = ask(*handed)
    case.assertEqual(repr(handed), repr(make()))
    case.assertEqual(repr(told), wanted)
    case.assertEqual(len(set(identities(told))), len(holders(told)))
    case.assertFalse(set(identities(told)) & set(identities(handed)))
    spoil(told)
    case.assertEqual(repr(handed), repr(make()))
    told = ask(*handed)
    case.assertEqual(repr(told), wanted)
    spoil(handed)
    case.assertEqual(repr(told), wanted)


# Things at the bounds of [10], each a thing still.
BOUNDS = [
    10 ** 12,
    -(10 ** 12),
    "~" * 30,
    "'" * 30,
    [0] * 60,
    {"n" + str(number): number for number in range(30)},
    {"a" * 12: "a"},
    nested(8),
    nested(8, "x"),
    nested_records(8),
    sized(200),
    [{"b" + "0" * 11: "'" * 30, "a": -(10 ** 12)} for _ in range(60)],
    {"z" + str(number): [[], {}, ""] for number in range(30)},
]

# Rising by [13], no two alike.
RISING = [
    None,
    False,
    True,
    -(10 ** 12),
    -10,
    -2,
    0,
    1,
    9,
    10,
    10 ** 12,
    "",
    " ",
    "'",
    "10",
    "9",
    "A",
    "a",
    "a ",
    "aa",
    "b",
    "~",
    [],
    [None],
    [None, None],
    [False],
    [0],
    [0, []],
    [1],
    [1, 0],
    [1, 0, 0],
    [1, 2],
    [2],
    ["a", "b"],
    [[]],
    [[], 0],
    [[0]],
    [[0], 0],
    [[0, 0]],
    [{}],
    {},
    {"a": None},
    {"a": None, "b": None},
    {"a": False},
    {"a": 0},
    {"a": 1},
    {"a": 1, "b": 0},
    {"a": 1, "b": 0, "c": 0},
    {"a": 1, "b": 1},
    {"a": 1, "c": 0},
    {"a": 9},
    {"a": [1]},
    {"a": [1], "b": 1},
    {"a": [1, 1]},
    {"a": {"x": 1}},
    {"a": {"x": 1, "y": 1}},
    {"a": {"x": 2}},
    {"a1": 0},
    {"ab": 0},
    {"b": 0},
    {"b": 0, "c": 0},
]
