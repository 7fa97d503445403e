"""Texts read as things, by [22]."""

from cabinet.errors import BadText, TooGreat
from cabinet.kinds import MOST_DEPTH, MOST_IN_NAME, MOST_IN_RECORD, MOST_IN_ROW, MOST_SIZE, is_sound_outside
from cabinet.signs import tokens

MOST_SIGNS = 20000
# A minus and thirteen figures: without noughts ahead, whatever is longer is beyond every number.
MOST_IN_NUMBER = 14
WORDS = {"none": None, "yes": True, "no": False}


def read(text):
    if len(text) > MOST_SIGNS:
        raise TooGreat("a text of more than 20000 signs")
    reader = Reader(tokens_to_stray(text))
    thing = reader.thing_here(0, False)
    reader.pass_over("end", "")
    return thing


def tokens_to_stray(text):
    # A token that can't stand may come ahead of the place where none can begin, and is told first then:
    # so that place becomes a token itself, one that can stand nowhere.
    try:
        return tokens(text)
    except BadText as refusal:
        return tokens(text[:refusal.at])[:-1] + [("stray", "", refusal.at)]


class Reader:
    def __init__(self, found):
        self.found = found
        self.place = 0
        self.begun = 0

    def passes(self, kind, string):
        token = self.found[self.place]
        if token[0] != kind or token[1] != string:
            return False
        self.place += 1
        return True

    def pass_over(self, kind, string):
        if not self.passes(kind, string):
            raise BadText("a token that can't stand here", self.found[self.place][2])

    def thing_here(self, depth, crowded):
        token = self.found[self.place]
        # Whether it can stand is asked ahead of all bounds: at one token BadText is told.
        if not begins_thing(token[0], token[1]):
            raise BadText("no thing begins so", token[2])
        if crowded or self.begun == MOST_SIZE:
            raise TooGreat("too many things")
        self.begun += 1
        self.place += 1
        if token[0] == "mark":
            return self.holder_here(depth, token[1])
        return plain_thing(token[0], token[1])

    def holder_here(self, depth, bracket):
        if depth == MOST_DEPTH:
            raise TooGreat("a bracket within eight that are open")
        if bracket == "[":
            return self.row_here(depth + 1)
        return self.record_here(depth + 1)

    def row_here(self, depth):
        row = []
        while not self.passes("mark", "]"):
            if row:
                self.pass_over("mark", ",")
            row.append(self.thing_here(depth, len(row) == MOST_IN_ROW))
        return row

    def record_here(self, depth):
        record = {}
        while not self.passes("mark", "}"):
            if record:
                self.pass_over("mark", ",")
            name = self.name_here(record)
            self.pass_over("mark", ":")
            record[name] = self.thing_here(depth, False)
        return record

    def name_here(self, record):
        token = self.found[self.place]
        if token[0] != "word" or token[1] in record:
            raise BadText("no name, or one that the record has already", token[2])
        if len(token[1]) > MOST_IN_NAME or len(record) == MOST_IN_RECORD:
            raise TooGreat("a name too long, or too many of them")
        self.place += 1
        return token[1]


def begins_thing(kind, string):
    if kind == "number":
        return string == "0" or string.lstrip("-")[0] != "0"
    if kind == "word":
        return string in WORDS
    if kind == "mark":
        return string in "[{"
    return kind == "text"


def plain_thing(kind, string):
    if kind == "word":
        return WORDS[string]
    # Python itself refuses to make a number of thousands of figures, so their count is asked first.
    if kind == "number" and len(string) > MOST_IN_NUMBER:
        raise TooGreat("a number beyond")
    thing = int(string) if kind == "number" else string
    if not is_sound_outside(thing):
        raise TooGreat("a number beyond, or a text too long")
    return thing
