"""Things changed at a path, by [33] to [35]."""

from cabinet.errors import NoPlace, TooGreat
from cabinet.kinds import copied, is_thing
from cabinet.paths import is_place
from cabinet.reach import leads_on


def put(thing, path, new):
    return sound(changed_at(thing, "put", path, new))


def inserted(thing, path, new):
    return sound(changed_at(thing, "insert", path, new))


def taken(thing, path):
    return changed_at(thing, "take", path)


def changed_at(thing, word, path, new=None):
    return copied(change_shared(thing, word, path, new))


def sound(thing):
    if not is_thing(thing):
        raise TooGreat("what comes is no thing")
    return thing


def change_shared(thing, word, path, new=None):
    # What the path goes through is made anew, all else is shared with what was handed in: so nothing
    # handed in is changed, and of many changes, one behind the other, the outcome alone need be copied.
    if not path:
        return whole_changed(word, new)
    stops = stops_to_last(thing, path)
    if not can_change(stops[-1], word, path[-1]):
        raise NoPlace("a last step that can't be gone", len(path) - 1)
    changed = part_changed(stops[-1], word, path[-1], new)
    for place in range(len(path) - 2, -1, -1):
        changed = part_changed(stops[place], "put", path[place], changed)
    return changed


def whole_changed(word, new):
    if word != "put":
        raise NoPlace("the empty path, where nothing is inserted or taken", 0)
    return new


def stops_to_last(thing, path):
    stops = [thing]
    for step in path[:-1]:
        if not leads_within(stops[-1], step):
            raise NoPlace("a path that leads nowhere", len(stops) - 1)
        stops.append(stops[-1][step])
    return stops


def leads_within(thing, step):
    # Rows may be longer here than a thing's are, but no step leads beyond the sixtieth place.
    return leads_on(thing, step) and (isinstance(step, str) or is_place(step))


def can_change(holder, word, step):
    if word == "take":
        return leads_within(holder, step)
    if isinstance(step, str):
        return word == "put" and isinstance(holder, dict)
    return isinstance(holder, list) and is_place(step) and step <= len(holder)


def part_changed(holder, word, step, new):
    if isinstance(holder, dict):
        return record_changed(holder, word, step, new)
    return row_changed(holder, word, step, new)


def record_changed(record, word, name, new):
    changed = dict(record)
    if word == "take":
        changed.pop(name)
    else:
        changed[name] = new
    return changed


def row_changed(row, word, place, new):
    ahead = row[:place]
    behind = row[place:] if word == "insert" else row[place + 1:]
    if word == "take":
        return ahead + behind
    return ahead + [new] + behind
