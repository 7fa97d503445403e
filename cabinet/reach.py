"""What paths lead to in things, by [30] and [32]."""

from cabinet.errors import NoPlace
from cabinet.kinds import copied


def thing_at(thing, path):
    stops = stops_on(thing, path)
    if len(stops) <= len(path):
        raise NoPlace("a path that leads nowhere", len(stops) - 1)
    return copied(stops[-1])


def has(thing, path):
    return len(stops_on(thing, path)) > len(path)


def found_or(thing, path, other=None):
    if has(thing, path):
        return thing_at(thing, path)
    return copied(other)


def spots(thing):
    paths = [[]]
    for step in steps_from(thing):
        paths.extend([[step] + path for path in spots(thing[step])])
    return paths


def stops_on(thing, path):
    # The thing itself, then what each step leads to, as far as they can be gone.
    stops = [thing]
    for step in path:
        if not leads_on(stops[-1], step):
            return stops
        stops.append(stops[-1][step])
    return stops


def leads_on(thing, step):
    if isinstance(step, str):
        return isinstance(thing, dict) and step in thing
    return isinstance(thing, list) and step < len(thing)


def steps_from(thing):
    if isinstance(thing, list):
        return list(range(len(thing)))
    if isinstance(thing, dict):
        return sorted(thing)
    return []
