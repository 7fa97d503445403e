"""The order of things, by [13]."""

from cabinet.kinds import copied, kind_of

KINDS = ("nothing", "truth", "number", "text", "row", "record")


def rank(thing):
    # The kind's place comes first, so that Python never holds two unlike kinds against each other.
    kind = kind_of(thing)
    place = KINDS.index(kind)
    if kind == "nothing":
        return (place,)
    if kind == "row":
        return (place, tuple([rank(part) for part in thing]))
    if kind == "record":
        return (place, tuple([(name, rank(thing[name])) for name in sorted(thing)]))
    return (place, thing)


def before(one, other):
    return rank(one) < rank(other)


def in_order(things, falling=False):
    copies = copied(things)
    if falling:
        return sorted(copies, key=rank, reverse=True)
    return sorted(copies, key=rank)
