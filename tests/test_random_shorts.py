"""Programs, rows and texts made by chance (from written seeds): kept and come up at any place, texts of states held
against a second reader, changed programs and parting rows against second ways that go by the document's words."""

import random
import re
import unittest

from outlast.changes import changed, part_at
from outlast.errors import NoState
from outlast.logs import run_again
from outlast.partings import parting_row
from outlast.programs import show_program
from outlast.readers import read_program
from outlast.runs import Run
from outlast.shorts import come_up_run, keep_run

NAMES = ("a", "b", "c", "d")
KEYS = ("k", "l")
WORTHS = (None, 0, 1, 2, 3, -1, 7, 10 ** 9, -10 ** 9)
PROGRAMS = 400

NUMBER = "(?:0|[1-9][0-9]*)"
WORTH = "(?:-|0|-?[1-9][0-9]*)"
NAME = "[a-z]{1,6}"
WAITING = re.compile(
    f"at((?: {NUMBER})+)\\n(?:for((?: {NUMBER})+)\\n)?now ({NUMBER})\\narg ({WORTH})\\n((?:name {NAME} {WORTH}\\n)*)"
    f"made ({NUMBER})\\n((?:open {NUMBER}\\n)*)((?:done {NUMBER} {WORTH}\\n)*)((?:letter {NAME} {WORTH}\\n)*)")
OWN_WORDS = "order timer child send drop wait hear if else done while end none arg now answer not".split()


def some_saying(chance, deep=1):
    form = chance.randrange(10)
    if deep == 6 or form < 6:
        return chance.choice((("number", chance.choice(WORTHS[1:])), ("none",), ("name", chance.choice(NAMES)),
                              ("name", chance.choice(NAMES)), ("arg",), ("now",)))
    if form < 8:
        return (chance.choice(("answer", "not")), some_saying(chance, deep + 1))
    return (chance.choice("+-*<="), some_saying(chance, deep + 1), some_saying(chance, deep + 1))


def some_ticket(chance):
    # Mostly what is likely the number of a ticket.
    if chance.random() < 0.7:
        return chance.choice((("name", chance.choice(NAMES)), ("number", chance.choice((0, 1, 2)))))
    return some_saying(chance)


def some_statement(chance, deep):
    kind = chance.choice(("set", "set", "order", "order", "timer", "child", "send", "drop", "wait", "wait", "wait",
                          "hear", "hear", "if", "while", "end"))
    name = chance.choice(NAMES)
    if kind == "set":
        return (kind, name, some_saying(chance))
    if kind in ("order", "child"):
        return (kind, name, "work", some_saying(chance))
    if kind == "timer":
        return (kind, name, some_saying(chance))
    if kind == "send":
        return (kind, some_saying(chance), chance.choice(KEYS), some_saying(chance))
    if kind == "wait":
        return (kind, name, tuple(some_ticket(chance) for _ in range(chance.randint(1, 4))))
    if kind == "hear":
        return (kind, name, chance.choice(KEYS))
    if kind == "drop" or deep == 4 or (kind == "end" and chance.random() < 0.6):
        return ("drop", some_saying(chance))
    if kind == "end":
        return (kind, some_saying(chance))
    if kind == "if":
        return (kind, some_saying(chance), some_block(chance, deep + 1), some_block(chance, deep + 1))
    return (kind, some_saying(chance), some_block(chance, deep + 1))


def some_block(chance, deep):
    return tuple(some_statement(chance, deep) for _ in range(chance.randint(0, 7 if deep == 0 else 3)))


def how_many(block):
    return sum(1 + sum(how_many(part) for part in statement[2:]) if statement[0] in ("if", "while") else 1
               for statement in block)


def some_program(chance):
    while True:
        program = some_block(chance, 0)
        if chance.random() < 0.5:
            program = (("while", ("number", 1), program + (("hear", "d", "k"),)),)
        if chance.random() < 0.7:
            program = tuple(("order", name, "work", ("arg",)) for name in chance.sample(NAMES, 3)) + program
        if how_many(program) <= 60:
            return program


def some_happening(chance, run):
    moment = chance.choice((0, 1, 5, 100, 10 ** 12, chance.randrange(1000)))
    worth = chance.choice(WORTHS)
    form = chance.randrange(12)
    if form == 0:
        return ("begin", moment, worth)
    if form < 8:
        tickets = run.open_tickets()
        ticket = chance.choice(tickets) if tickets and form > 1 else chance.choice((-1, 0, 1, 2, 3, 50, 10 ** 9))
        return ("done", moment, ticket, worth)
    return ("letter", moment, chance.choice(KEYS), worth)


def some_row(chance, program, many):
    run, row = Run(program), []
    for k in range(many):
        row.append(some_happening(chance, run) if k != 1 else ("begin", 3, chance.choice(WORTHS)))
        run.take(row[-1])
    return row


def sleeping_places(block, place=()):
    for number, statement in enumerate(block):
        if statement[0] in ("wait", "hear"):
            yield place + (number,), statement
        for which, inner in enumerate(statement[2:] if statement[0] in ("if", "while") else ()):
            yield from sleeping_places(inner, place + (number, which))


def worth_read(word):
    return None if word == "-" else int(word)


def rows_read(text):
    return [line.split(" ")[1:] for line in text.splitlines()]


def state_read(program, text):
    """The state that a text writes, or None: by a pattern, and all places that there are."""
    if text in ("new\n", "worn\n"):
        return (text[:-1],)
    if re.fullmatch(f"ended {WORTH}\\n", text):
        worth = worth_read(text[6:-1])
        return ("ended", worth) if abs(worth or 0) <= 10 ** 9 else None
    found = WAITING.fullmatch(text)
    if found is None:
        return None
    place = tuple(int(word) for word in found[1].split())
    waited = None if found[2] is None else tuple(int(word) for word in found[2].split())
    names = tuple((name, worth_read(word)) for name, word in rows_read(found[5]))
    pending = tuple(int(word) for word, in rows_read(found[7]))
    answers = tuple((int(word), worth_read(other)) for word, other in rows_read(found[8]))
    letters = [(key, worth_read(word)) for key, word in rows_read(found[9])]
    now, arg, made = int(found[3]), worth_read(found[4]), int(found[6])
    statement = dict(sleeping_places(program)).get(place)
    keys = [key for key, _ in letters]
    worths = [arg] + [worth for _, worth in names + answers + tuple(letters)]
    tickets = pending + tuple(ticket for ticket, _ in answers)
    given = set(re.findall("^([a-z]+) = ", show_program(program), re.M))
    fine = (
        statement is not None and now <= 10 ** 12 and made <= 10 ** 9
        and all(abs(worth or 0) <= 10 ** 9 for worth in worths)
        and all(one[0] < other[0] for one, other in zip(names, names[1:]))
        and all(name in given and worth is not None for name, worth in names)
        and all(one < other for one, other in zip(pending, pending[1:]))
        and len(set(tickets)) == len(tickets) and max(tickets, default=-1) < made
        and all(one <= other for one, other in zip(keys, keys[1:])) and not set(keys) & set(OWN_WORDS))
    if not fine:
        return None
    if statement[0] == "hear" and (waited is not None or statement[2] in keys):
        return None
    if statement[0] == "wait" and (waited is None or not 1 <= len(waited) <= 4 or not set(waited) <= set(pending)
                                   or any(one >= other for one, other in zip(waited, waited[1:]))):
        return None
    sleep = ("hear", statement[2]) if statement[0] == "hear" else ("wait", waited)
    by_keys = tuple((key, tuple(worth for other, worth in letters if other == key)) for key in sorted(set(keys)))
    return (sleep, place, arg, now, names, made, pending, answers, by_keys)


def spoilt(chance, text):
    """The text with something of it left out, doubled, exchanged or written otherwise."""
    rows = text.split("\n")[:-1]
    at, other = chance.randrange(len(rows)), chance.randrange(len(rows))
    words = rows[at].split(" ")
    word = chance.randrange(len(words))
    form = chance.randrange(9)
    if form == 0:
        rows.pop(at)
    elif form == 1:
        rows.insert(other, rows[at])
    elif form == 2:
        rows[at], rows[other] = rows[other], rows[at]
    elif form == 3:
        rows.insert(other, rows.pop(at))
    elif form == 4:
        rows.insert(at, chance.choice(("open 0", "open 1", "open 2", "done 0 1", "done 2 -", "name a 1", "name c 2",
                                       "letter k 1", "letter m -", "for 0", "for 0 1", "made 5", "now 1", "new", "")))
    elif form == 5:
        words[word] = chance.choice(("0", "1", "2", "3", "-", "-1", "01", "+1", "k", "a", "d", "9", "", "1000000001",
                                     "1000000000000", "1000000000001"))
        rows[at] = " ".join(words)
    elif form == 6:
        words.insert(word, chance.choice(("0", "1", "2", "k", "")))
        rows[at] = " ".join(words)
    elif form == 7 and len(words) > 1:
        words.pop(word)
        rows[at] = " ".join(words)
    else:
        return text[:-1] + chance.choice(("", "\n\n", "\n ", " \n", "x\n", "\nnew\n", "0\n"))
    return "".join(row + "\n" for row in rows)


class KeptAndComeUp(unittest.TestCase):
    def test_at_any_place(self):
        for seed in range(PROGRAMS):
            chance = random.Random(seed)
            program = some_program(chance)
            row = some_row(chance, program, chance.choice((5, 20, 40)))
            told = run_again(program, row)[1]
            stopped = Run(program)
            straight = Run(program)
            for number, happening in enumerate(row):
                text = keep_run(stopped)
                self.assertEqual(state_read(program, text), straight.state())
                stopped = come_up_run(program, text)
                self.assertEqual(stopped.state(), straight.state())
                self.assertEqual(stopped.waits(), straight.waits())
                self.assertEqual(stopped.open_tickets(), straight.open_tickets())
                self.assertEqual(keep_run(stopped), text)
                self.assertEqual(stopped.take(happening), told[number])
                straight.take(happening)
            place = chance.randrange(len(row) + 1)
            run = come_up_run(program, keep_run(run_again(program, row[:place])[0]))
            self.assertEqual([run.take(happening) for happening in row[place:]], told[place:])
            self.assertEqual(run.state(), straight.state())

    def test_texts_against_a_second_reader(self):
        counts = {True: 0, False: 0}
        for seed in range(PROGRAMS):
            chance = random.Random(seed)
            program = some_program(chance)
            run = Run(program)
            for happening in some_row(chance, program, 12):
                run.take(happening)
                text = keep_run(run)
                for _ in range(3):
                    text = spoilt(chance, text if "\n" in text else "new\n")
                    state = state_read(program, text)
                    counts[state is not None] += 1
                    if state is None:
                        with self.assertRaises(NoState, msg=text):
                            come_up_run(program, text)
                    else:
                        again = come_up_run(program, text)
                        self.assertEqual(again.state(), state)
                        self.assertEqual(keep_run(again), text)
        self.assertTrue(all(count > 1000 for count in counts.values()), counts)


def other_number(chance, thing):
    """The program, or a part of it, with perhaps another number or key in it."""
    if isinstance(thing, tuple) and thing and thing[0] == "number":
        return ("number", chance.choice((0, 1, 2))) if chance.random() < 0.15 else thing
    if isinstance(thing, tuple):
        return tuple(other_number(chance, part) for part in thing)
    return "l" if thing == "k" and chance.random() < 0.1 else thing


def other_name(thing, old, new):
    """The program with another name in each place where the old one stood."""
    if isinstance(thing, tuple):
        return tuple(other_name(part, old, new) for part in thing)
    return new if thing == old else thing


class Changed(unittest.TestCase):
    def test_where_they_part(self):
        partings = 0
        for seed in range(PROGRAMS):
            chance = random.Random(seed)
            one = some_program(chance)
            other = chance.choice((other_number(chance, one), other_name(one, "d", "e"), some_program(chance)))
            row = some_row(chance, one, 15)
            first, second, expected = Run(one), Run(other), None
            for number, happening in enumerate(row):
                commands = (first.take(happening), second.take(happening))
                if expected is None and commands[0] != commands[1]:
                    expected = (number,) + commands
            partings += expected is not None
            self.assertEqual(part_at(one, other, row), expected)
            told = changed(one, other, row)
            if expected is None:
                self.assertEqual((len(told), told[0], told[1].state()), (2, "let", second.state()))
            else:
                self.assertEqual(told, ("parts",) + expected)
        self.assertTrue(100 < partings < PROGRAMS - 100, partings)


def happenings_behind_a_row(one, other, row, worths, keys):
    tickets = {*run_again(one, row)[0].open_tickets(), *run_again(other, row)[0].open_tickets()}
    return ([("done", 0, ticket, worth) for ticket in sorted(tickets) for worth in worths]
            + [("letter", 0, key, worth) for key in keys for worth in worths])


def parting_by_all_rows(one, other, worths, keys, many):
    """What is told of two programs, by making every row."""
    rows, earlier = [[("begin", 0, worths[0])]], set()
    for _ in range(many):
        pairs = set()
        for row in rows:
            if part_at(one, other, row) is not None:
                return ("parts", row)
            pairs.add((run_again(one, row)[0].state(), run_again(other, row)[0].state()))
        if pairs <= earlier:
            return ("never", len(earlier))
        earlier |= pairs
        rows = [row + [happening] for row in rows for happening in happenings_behind_a_row(one, other, row, worths,
                                                                                           keys)]
        if len(rows) > 400:
            return None
    return ("none",)


class Partings(unittest.TestCase):
    def test_against_all_rows(self):
        kinds = {}
        for seed in range(PROGRAMS):
            chance = random.Random(seed)
            one = some_program(chance)
            other = chance.choice((one, other_number(chance, one), other_number(chance, one),
                                   other_name(one, "d", "e")))
            worths = chance.sample((0, 1, 2, None), chance.choice((1, 2, 2, 3)))
            keys = chance.sample(("k", "l", "m"), chance.choice((0, 1, 1, 2)))
            for many in (1, 2, 3, 4, 5):
                expected = parting_by_all_rows(one, other, worths, keys, many)
                if expected is None:
                    break
                told = parting_row(one, other, worths, keys, many)
                self.assertEqual(told, expected, (show_program(one), show_program(other), worths, keys, many))
                kind = (told[0], len(told[1]) if told[0] == "parts" else many)
                kinds[kind] = kinds.get(kind, 0) + 1
        for kind in (("parts", 1), ("parts", 2), ("parts", 3), ("never", 2), ("never", 3), ("never", 4), ("none", 4)):
            self.assertGreater(kinds.get(kind, 0), 5, kinds)

    def test_where_it_tells_never_no_row_parts_them(self):
        found = 0
        for seed in range(PROGRAMS):
            chance = random.Random(seed)
            one = some_program(chance)
            other = chance.choice((other_number(chance, one), other_name(one, "d", "e")))
            worths, keys = [1, 2], chance.sample(("k", "l"), 1)
            if one == other or parting_row(one, other, worths, keys, 4)[0] != "never":
                continue
            found += 1
            for _ in range(20):
                row = [("begin", 0, 1)]
                for _ in range(10):
                    behind = happenings_behind_a_row(one, other, row, worths, keys)
                    row.append(chance.choice(behind))
                self.assertIsNone(part_at(one, other, row))
        self.assertGreater(found, 20)


if __name__ == "__main__":
    unittest.main()
