"""Programs read back from the texts that write them."""

from outlast.errors import NoProgram
from outlast.figures import is_number_word
from outlast.worths import GREATEST_WORTH, is_name

MOST_STATEMENTS = 60
DEEPEST_BLOCK = 5
DEEPEST_SAYING = 6
MOST_WAITED = 4

SIGNS = ("+", "-", "*", "<", "=")


def read_program(text):
    if text != "" and not text.endswith("\n"):
        raise NoProgram("the last line lacks its line feed")
    reader = Reader(text.split("\n")[:-1])
    program = reader.block(0)
    if reader.ahead() is not None:
        raise NoProgram("an else or done that belongs to nothing")
    return program


class Reader:
    def __init__(self, lines):
        self.lines = lines
        self.lines_read = 0
        self.statements_read = 0

    def ahead(self):
        return self.lines[self.lines_read] if self.lines_read < len(self.lines) else None

    def block(self, deep):
        if deep > DEEPEST_BLOCK:
            raise NoProgram("blocks too deep")
        statements = []
        while self.ahead() not in (None, "else", "done"):
            statements.append(self.statement(deep))
        return tuple(statements)

    def statement(self, deep):
        words = self.ahead().split(" ")
        self.lines_read += 1
        self.statements_read += 1
        if self.statements_read > MOST_STATEMENTS:
            raise NoProgram("too many statements")
        if words[0] in ("if", "while"):
            return self.with_blocks(words, deep)
        statement = take_plain(words)
        refuse_more(words)
        return statement

    def with_blocks(self, words, deep):
        kind = take_word(words)
        saying = take_saying(words, 1)
        refuse_more(words)
        first = self.block(deep + 1)
        blocks = (first,) if kind == "while" else (first, self.second_block(deep + 1))
        if self.ahead() != "done":
            raise NoProgram("a done lacks")
        self.lines_read += 1
        return (kind, saying) + blocks

    def second_block(self, deep):
        if self.ahead() != "else":
            return ()
        self.lines_read += 1
        block = self.block(deep)
        if not block:
            raise NoProgram("an else without lines")
        return block


def take_plain(words):
    first = take_word(words)
    if first == "send":
        return (first, take_saying(words, 1), take_name(words), take_saying(words, 1))
    if first == "drop" or first == "end":
        return (first, take_saying(words, 1))
    if not is_name(first) or take_word(words) != "=":
        raise NoProgram("no statement")
    return take_given(first, words)


def take_given(name, words):
    kind = words[0] if words else ""
    if kind not in ("order", "child", "timer", "wait", "hear"):
        return ("set", name, take_saying(words, 1))
    take_word(words)
    if kind == "timer":
        return (kind, name, take_saying(words, 1))
    if kind == "wait":
        return (kind, name, take_waited(words))
    if kind == "hear":
        return (kind, name, take_name(words))
    return (kind, name, take_name(words), take_saying(words, 1))


def take_waited(words):
    sayings = [take_saying(words, 1)]
    while words and len(sayings) < MOST_WAITED:
        sayings.append(take_saying(words, 1))
    return tuple(sayings)


def take_saying(words, deep):
    if deep > DEEPEST_SAYING:
        raise NoProgram("a saying too deep")
    word = take_word(words)
    if word in ("none", "arg", "now"):
        return (word,)
    if word in ("answer", "not"):
        return (word, take_saying(words, deep + 1))
    if word == "(":
        return take_joined(words, deep + 1)
    if is_number_word(word, -GREATEST_WORTH, GREATEST_WORTH):
        return ("number", int(word))
    if is_name(word):
        return ("name", word)
    raise NoProgram("no saying")


def take_joined(words, deep):
    one = take_saying(words, deep)
    sign = take_word(words)
    other = take_saying(words, deep)
    if sign not in SIGNS or take_word(words) != ")":
        raise NoProgram("no saying")
    return (sign, one, other)


def take_name(words):
    word = take_word(words)
    if not is_name(word):
        raise NoProgram("no name")
    return word


def take_word(words):
    if not words:
        raise NoProgram("a word lacks")
    return words.pop(0)


def refuse_more(words):
    if words:
        raise NoProgram("a word too many")
