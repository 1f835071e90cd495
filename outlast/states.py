"""States: read from the texts that write them, and held against the program that they are of."""

from outlast.errors import NoState
from outlast.readers import MOST_WAITED
from outlast.rows import is_row, row_of

# States of runs that don't wait within their program: a row each.
SHORT_STATES = ("new", "ended", "worn")

# What made may be at most is what a ticket may be at most.
FORMS = {
    "new": (), "ended": ("worth",), "worn": (), "now": ("moment",), "arg": ("worth",), "name": ("name", "worth"),
    "made": ("ticket",), "open": ("ticket",), "done": ("ticket", "worth"), "letter": ("name", "worth"),
}

HEADS = ("at", "for", "now", "arg", "name", "made", "open", "done", "letter")
HEADS_OF_ONE = ("at", "now", "arg", "made")
GIVING = ("set", "order", "timer", "child", "wait", "hear")


def read_state(program, text):
    rows = read_state_rows(text)
    if len(rows) == 1 and rows[0][0] in SHORT_STATES:
        return rows[0]
    refuse_unless(are_in_order([row[0] for row in rows]), "lines lack, are too many or stand elsewhere")
    made = rests(rows, "made")[0][0]
    pending = tuple([rest[0] for rest in rests(rows, "open")])
    answers = tuple(rests(rows, "done"))
    refuse_unless(are_tickets(made, pending, answers), "tickets that can't be so")
    names = tuple(rests(rows, "name"))
    refuse_unless(are_names_of(program, names), "names that can't be so")
    letters = rests(rows, "letter")
    keys = [letter[0] for letter in letters]
    refuse_unless(keys == sorted(keys), "keys that don't rise")
    place = rests(rows, "at")[0]
    sleep = read_sleep(statement_at(program, place), rests(rows, "for"), pending, keys)
    arg = rests(rows, "arg")[0][0]
    now = rests(rows, "now")[0][0]
    return (sleep, place, arg, now, names, made, pending, answers, by_keys(letters))


def refuse_unless(truth, words):
    if not truth:
        raise NoState(words)


def read_state_rows(text):
    refuse_unless(text.endswith("\n"), "the last line lacks its line feed")
    return [read_state_row(line.split(" ")) for line in text.split("\n")[:-1]]


def read_state_row(words):
    kinds = kinds_of(words)
    refuse_unless(is_row(words, kinds), "no line of a state")
    return row_of(words, kinds)


def kinds_of(words):
    if words[0] in ("at", "for"):
        return ("ticket",) * (len(words) - 1)
    return FORMS.get(words[0])


def are_in_order(heads):
    if not all([head in HEADS for head in heads]):
        return False
    numbers = [HEADS.index(head) for head in heads]
    return numbers == sorted(numbers) and all([heads.count(head) == 1 for head in HEADS_OF_ONE])


def rests(rows, head):
    return [row[1:] for row in rows if row[0] == head]


def is_rising(things):
    return list(things) == sorted(set(things))


def are_tickets(made, pending, answers):
    tickets = list(pending) + [answer[0] for answer in answers]
    if not is_rising(pending) or len(set(tickets)) != len(tickets):
        return False
    return all([ticket < made for ticket in tickets])


def are_names_of(program, pairs):
    if not is_rising([pair[0] for pair in pairs]):
        return False
    given = given_names(program)
    return all([pair[0] in given and pair[1] is not None for pair in pairs])


def given_names(block):
    names = []
    for statement in block:
        if statement[0] in GIVING:
            names.append(statement[1])
        for inner in blocks_of(statement):
            names.extend(given_names(inner))
    return names


def blocks_of(statement):
    return statement[2:] if statement[0] in ("if", "while") else ()


def statement_at(block, place):
    # None where the place leads to nothing.
    if not place or place[0] >= len(block):
        return None
    statement = block[place[0]]
    if len(place) == 1:
        return statement
    blocks = blocks_of(statement)
    return statement_at(blocks[place[1]], place[2:]) if place[1] < len(blocks) else None


def read_sleep(statement, waited, pending, keys):
    kind = None if statement is None else statement[0]
    if kind == "hear":
        refuse_unless(not waited and statement[2] not in keys, "it can't hear so")
        return ("hear", statement[2])
    refuse_unless(kind == "wait" and len(waited) == 1, "it can't wait there")
    tickets = waited[0]
    refuse_unless(1 <= len(tickets) <= MOST_WAITED and is_rising(tickets), "it can't wait for so many")
    refuse_unless(all([ticket in pending for ticket in tickets]), "it waits for what isn't open")
    return ("wait", tickets)


def by_keys(letters):
    worths = {}
    for letter in letters:
        worths.setdefault(letter[0], []).append(letter[1])
    return tuple([(key, tuple(worths[key])) for key in worths])
