"""The paper that goes back, by [42]."""

from cabinet.papers import stands_of
from cabinet.reach import has, thing_at
from cabinet.setting import sound


def back(thing, paper):
    stands = stands_of(thing, paper)
    deeds = [deed_back(stands[number], deed) for number, deed in enumerate(paper)]
    return list(reversed(deeds))


def deed_back(stand, deed):
    word = deed[0]
    path = list(deed[1])
    # What an insert leads to only moves on, and a put that leads nowhere covers nothing.
    if word == "insert" or not has(stand, path):
        return ("take", path)
    gone = sound(thing_at(stand, path))
    if word == "take" and not isinstance(path[-1], str):
        return ("insert", path, gone)
    return ("put", path, gone)
