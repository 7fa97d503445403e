"""Papers of deeds, by [40], and what comes of a thing by them, by [41]."""

from cabinet.errors import NoDeed, NoPlace
from cabinet.kinds import copied, is_thing
from cabinet.paths import is_path
from cabinet.setting import change_shared, sound

MOST_DEEDS = 400


def is_paper(thing):
    if not isinstance(thing, list) or len(thing) > MOST_DEEDS:
        return False
    return all([is_deed(part) for part in thing])


def is_deed(thing):
    if not isinstance(thing, tuple) or not 2 <= len(thing) <= 3 or not is_path(thing[1]):
        return False
    if len(thing) == 2:
        return thing[0] == "take"
    return thing[0] in ("put", "insert") and is_thing(thing[2])


def done(thing, paper):
    return copied(stands_of(thing, paper)[-1])


def stands_of(thing, paper):
    # The thing itself, then what stands behind each deed; between them may stand what is no thing.
    # They share what they have in common.
    stands = [thing]
    for number, deed in enumerate(paper):
        stands.append(after_deed(stands[-1], deed, number))
    sound(stands[-1])
    return stands


def after_deed(thing, deed, number):
    new = deed[2] if len(deed) > 2 else None
    try:
        return change_shared(thing, deed[0], deed[1], new)
    except NoPlace as refusal:
        raise NoDeed("a deed whose path doesn't lead as it wants it", number) from refusal
