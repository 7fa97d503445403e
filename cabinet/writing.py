"""Things written as texts, by [20]."""

from cabinet.kinds import kind_of


def written(thing):
    kind = kind_of(thing)
    if kind == "nothing":
        return "none"
    if kind == "truth":
        return "yes" if thing else "no"
    if kind == "number":
        return str(thing)
    if kind == "text":
        return "'" + thing.replace("'", "''") + "'"
    if kind == "row":
        return "[" + ", ".join([written(part) for part in thing]) + "]"
    return "{" + ", ".join([name + ": " + written(thing[name]) for name in sorted(thing)]) + "}"
