"""The paper that leads from one thing to another, by [43], and papers that are apart, by [44]."""

from cabinet.kinds import alike, copied


def difference(old, new):
    return deeds_between(old, new, [])


def deeds_between(old, new, path):
    if alike(old, new):
        return []
    if isinstance(old, list) and isinstance(new, list):
        return deeds_between_rows(old, new, path)
    if isinstance(old, dict) and isinstance(new, dict):
        return deeds_between_records(old, new, path)
    return [("put", path, copied(new))]


def deeds_between_records(old, new, path):
    deeds = [("take", path + [name]) for name in sorted(old) if name not in new]
    for name in sorted(new):
        if name in old:
            deeds.extend(deeds_between(old[name], new[name], path + [name]))
        else:
            deeds.append(("put", path + [name], copied(new[name])))
    return deeds


def deeds_between_rows(old, new, path):
    # What is alike at both ends stays; from the first unlike place on the things of both rows
    # are held against each other, as far as both reach, and what one has more is taken or inserted.
    ahead = alike_ahead(old, new)
    behind = alike_ahead(old[ahead:][::-1], new[ahead:][::-1])
    both = min(len(old), len(new)) - behind
    deeds = []
    for place in range(ahead, both):
        deeds.extend(deeds_between(old[place], new[place], path + [place]))
    for place in range(len(old) - behind - 1, both - 1, -1):
        deeds.append(("take", path + [place]))
    for place in range(both, len(new) - behind):
        deeds.append(("insert", path + [place], copied(new[place])))
    return deeds


def alike_ahead(one, other):
    count = 0
    for part, against in zip(one, other):
        if not alike(part, against):
            return count
        count += 1
    return count


def apart(one, other):
    return all([apart_from_all(deed[1], other) for deed in one])


def apart_from_all(path, paper):
    return all([are_apart(path, deed[1]) for deed in paper])


def are_apart(path, against):
    for step, other in zip(path, against):
        if step != other:
            return isinstance(step, str) and isinstance(other, str)
    return False
