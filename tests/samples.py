"""What several tests use: deep things, made-up things, and ways to look into values and to spoil them."""

import copy


def nested(depth, inside=None):
    """A row within a row and so on, depth deep; inside stands in the innermost one, if told."""
    thing = [] if inside is None else [inside]
    for _ in range(depth - 1):
        thing = [thing]
    return thing


def nested_records(depth):
    thing = {}
    for _ in range(depth - 1):
        thing = {"a": thing}
    return thing


def sized(size):
    """A row of rows, depth 2, of the size told, at most 60 things in each row."""
    left = size - 1
    rows = []
    while left > 0:
        row_size = min(left, 60)
        rows.append([0] * (row_size - 1))
        left -= row_size
    return rows


def holders(value):
    """All lists and dicts in a value, at every depth, also within tuples."""
    found = []
    if isinstance(value, (list, dict)):
        found.append(value)
    if isinstance(value, dict):
        value = list(value.values())
    if isinstance(value, (list, tuple)):
        for part in value:
            found.extend(holders(part))
    return found


def identities(value):
    return [id(holder) for holder in holders(value)]


def spoil(value):
    """Changes every list and dict in a value."""
    for holder in holders(value):
        if isinstance(holder, list):
            holder.append("spoilt")
        else:
            holder["spoilt"] = "spoilt"


def check_own(case, ask, make):
    """[1], of ask with the arguments that make tells, anew at each call."""
    wanted = repr(ask(*make()))
    handed = make()
    told = ask(*handed)
    case.assertEqual(repr(handed), repr(make()))
    case.assertEqual(repr(told), wanted)
    case.assertEqual(len(set(identities(told))), len(holders(told)))
    case.assertFalse(set(identities(told)) & set(identities(handed)))
    spoil(told)
    case.assertEqual(repr(handed), repr(make()))
    told = ask(*handed)
    case.assertEqual(repr(told), wanted)
    spoil(handed)
    case.assertEqual(repr(told), wanted)


def check_unchanged(case, refusal, ask, make):
    """[1] and [2]: what is refused changes nothing that was handed in."""
    handed = make()
    with case.assertRaises(refusal) as caught:
        ask(*handed)
    case.assertEqual(repr(handed), repr(make()))
    return caught.exception


def any_thing(chance, depth=3):
    """A small thing, by chance, which is a random.Random of a written seed: so it is the same one each time."""
    kind = chance.randrange(8 if depth else 5)
    if kind == 0:
        return None
    if kind == 1:
        return chance.choice([False, True])
    if kind <= 3:
        return chance.randrange(-1, 3)
    if kind == 4:
        return chance.choice(["", "a", "it's"])
    parts = [any_thing(chance, depth - 1) for _ in range(chance.randrange(4))]
    if kind == 5:
        return parts
    return {name: part for name, part in zip(chance.sample("abcd", len(parts)), parts)}


def any_holder(chance, depth=4):
    """The same, but a row or record that isn't empty."""
    thing = None
    while not isinstance(thing, (list, dict)) or not thing:
        thing = any_thing(chance, depth)
    return thing


def any_step(chance):
    return chance.choice(["a", "b", "c", "d", 0, 1, 2, 3])


def any_path(chance, thing, lead=0.9):
    """A path that goes on in the thing as a rule, and ends now and then, or leads nowhere."""
    path = []
    while chance.random() < lead and len(path) < 8:
        if isinstance(thing, list) and thing and chance.random() < 0.9:
            path.append(chance.randrange(min(len(thing) + 1, 60)))
        elif isinstance(thing, dict) and thing and chance.random() < 0.9:
            path.append(chance.choice(sorted(thing) + ["a"]))
        else:
            return path + [any_step(chance)]
        try:
            thing = thing[path[-1]]
        except LookupError:
            return path
    return path


def any_deed(chance, thing):
    word = chance.choice(["put", "insert", "take"])
    path = any_path(chance, thing)
    return (word, path) if word == "take" else (word, path, any_thing(chance, 2))


def plainly(thing, word, path, new=None):
    """What [33] and [34] say, done upon a copy on the spot: a pair of the outcome, or None, and of at, or None."""
    whole = [copy.deepcopy(thing)]
    steps = [0] + path
    holder = whole
    for at, step in enumerate(steps[:-1]):
        if not leads(holder, step):
            return None, at - 1
        holder = holder[step]
    last = steps[-1]
    if len(steps) == 1 and word != "put":
        return None, 0
    if word == "take" and leads(holder, last):
        del holder[last]
    elif word == "insert" and isinstance(holder, list) and isinstance(last, int) and last <= len(holder):
        holder.insert(last, copy.deepcopy(new))
    elif word == "put" and isinstance(holder, list) and last == len(holder):
        holder.append(copy.deepcopy(new))
    elif word == "put" and (isinstance(holder, dict) and isinstance(last, str) or leads(holder, last)):
        holder[last] = copy.deepcopy(new)
    else:
        return None, len(path) - 1
    return whole[0], None


def any_paper(chance, thing):
    """A paper that can be done upon the thing, what comes of it, and papers whose last deed can't be done."""
    paper, refused = [], []
    for _ in range(chance.randrange(7)):
        deed = any_deed(chance, thing)
        after, at = plainly(thing, *deed)
        if at is None:
            paper.append(deed)
            thing = after
        else:
            refused.append(paper + [deed])
    return paper, thing, refused


def leads(holder, step):
    if isinstance(step, str):
        return isinstance(holder, dict) and step in holder
    return isinstance(holder, list) and step < len(holder)


# Things at the bounds of [10], each a thing still.
BOUNDS = [
    10 ** 12,
    -(10 ** 12),
    "~" * 30,
    "'" * 30,
    [0] * 60,
    {"n" + str(number): number for number in range(30)},
    {"a" * 12: "a"},
    nested(8),
    nested(8, "x"),
    nested_records(8),
    sized(200),
    [{"b" + "0" * 11: "'" * 30, "a": -(10 ** 12)} for _ in range(60)],
    {"z" + str(number): [[], {}, ""] for number in range(30)},
]

# Rising by [13], no two alike.
RISING = [
    None,
    False,
    True,
    -(10 ** 12),
    -10,
    -2,
    0,
    1,
    9,
    10,
    10 ** 12,
    "",
    " ",
    "'",
    "10",
    "9",
    "A",
    "a",
    "a ",
    "aa",
    "b",
    "~",
    [],
    [None],
    [None, None],
    [False],
    [0],
    [0, []],
    [1],
    [1, 0],
    [1, 0, 0],
    [1, 2],
    [2],
    ["a", "b"],
    [[]],
    [[], 0],
    [[0]],
    [[0], 0],
    [[0, 0]],
    [{}],
    {},
    {"a": None},
    {"a": None, "b": None},
    {"a": False},
    {"a": 0},
    {"a": 1},
    {"a": 1, "b": 0},
    {"a": 1, "b": 0, "c": 0},
    {"a": 1, "b": 1},
    {"a": 1, "c": 0},
    {"a": 9},
    {"a": [1]},
    {"a": [1], "b": 1},
    {"a": [1, 1]},
    {"a": {"x": 1}},
    {"a": {"x": 1, "y": 1}},
    {"a": {"x": 2}},
    {"a1": 0},
    {"ab": 0},
    {"b": 0},
    {"b": 0, "c": 0},
]
