"""Programs and rows made by chance (from written seeds), held against a second way to run them, written anew from the
document: a program as a generator, block by block, that hands out what it waits for."""

import random
import unittest

from outlast.logs import read_log, run_again, show_log
from outlast.programs import show_program
from outlast.readers import read_program
from outlast.runs import Run

NAMES = ("a", "b", "c", "d")
KEYS = ("k", "l")
WORTHS = (None, 0, 1, 2, 3, -1, 7, 10 ** 9, -10 ** 9)
PROGRAMS = 1500


def some_saying(chance, deep=1):
    form = chance.randrange(10)
    if deep == 6 or form < 6:
        return chance.choice((("number", chance.choice(WORTHS[1:])), ("none",), ("name", chance.choice(NAMES)),
                              ("name", chance.choice(NAMES)), ("arg",), ("now",)))
    if form < 8:
        return (chance.choice(("answer", "not")), some_saying(chance, deep + 1))
    return (chance.choice("+-*<="), some_saying(chance, deep + 1), some_saying(chance, deep + 1))


def some_ticket(chance):
    # Mostly what is likely the number of a ticket.
    if chance.random() < 0.7:
        return chance.choice((("name", chance.choice(NAMES)), ("number", chance.choice((0, 1, 2)))))
    return some_saying(chance)


def some_statement(chance, deep):
    kind = chance.choice(("set", "set", "order", "order", "timer", "child", "send", "drop", "wait", "wait", "wait",
                          "hear", "hear", "if", "while", "end"))
    name = chance.choice(NAMES)
    if kind == "set":
        return (kind, name, some_saying(chance))
    if kind in ("order", "child"):
        return (kind, name, "work", some_saying(chance))
    if kind == "timer":
        return (kind, name, some_saying(chance))
    if kind == "send":
        return (kind, some_saying(chance), chance.choice(KEYS), some_saying(chance))
    if kind == "wait":
        return (kind, name, tuple(some_ticket(chance) for _ in range(chance.randint(1, 4))))
    if kind == "hear":
        return (kind, name, chance.choice(KEYS))
    if kind == "drop" or deep == 4 or (kind == "end" and chance.random() < 0.6):
        return ("drop", some_saying(chance))
    if kind == "end":
        return (kind, some_saying(chance))
    if kind == "if":
        return (kind, some_saying(chance), some_block(chance, deep + 1), some_block(chance, deep + 1))
    return (kind, some_saying(chance), some_block(chance, deep + 1))


def some_block(chance, deep):
    return tuple(some_statement(chance, deep) for _ in range(chance.randint(0, 7 if deep == 0 else 3)))


def how_many(block):
    return sum(1 + sum(how_many(part) for part in statement[2:]) if statement[0] in ("if", "while") else 1
               for statement in block)


def some_program(chance):
    while True:
        program = some_block(chance, 0)
        if chance.random() < 0.5:
            program = (("while", ("number", 1), program + (("hear", "d", "k"),)),)
        if chance.random() < 0.7:
            program = tuple(("order", name, "work", ("arg",)) for name in chance.sample(NAMES, 3)) + program
        if how_many(program) <= 60:
            return program


def some_happening(chance, run):
    moment = chance.choice((0, 1, 5, 100, 10 ** 12, chance.randrange(1000)))
    worth = chance.choice(WORTHS)
    form = chance.randrange(12)
    if form == 0:
        return ("begin", moment, worth)
    if form < 8:
        tickets = run.open_tickets()
        ticket = chance.choice(tickets) if tickets and form > 1 else chance.choice((-1, 0, 1, 2, 3, 50, 10 ** 9))
        return ("done", moment, ticket, worth)
    return ("letter", moment, chance.choice(KEYS), worth)


class Over(Exception):
    def __init__(self, command):
        self.command = command


class Model:
    def __init__(self, program):
        self.told_state = ("new",)
        self.program = program
        self.names, self.arg, self.now = {}, None, 0
        self.tickets = []
        self.done_order, self.letters = [], []
        self.commands, self.steps = [], 0

    def said(self, saying):
        kind, parts = saying[0], saying[1:]
        if kind == "number":
            return parts[0]
        if kind in ("none", "arg"):
            return self.arg if kind == "arg" else None
        if kind == "now":
            return min(self.now, 10 ** 9)
        if kind == "name":
            return self.names.get(parts[0])
        worths = [self.said(part) for part in parts]
        if kind == "answer":
            return next((worth for ticket, worth in self.done_order if ticket == worths[0]), None)
        if kind == "not":
            return int(not worths[0])
        if kind == "=":
            return int(worths[0] == worths[1])
        one, other = [worth or 0 for worth in worths]
        if kind == "<":
            return int(one < other)
        number = {"+": one + other, "-": one - other, "*": one * other}[kind]
        return sorted((-10 ** 9, number, 10 ** 9))[1]

    def whole(self):
        yield from self.block(self.program, ())
        raise Over(("end", None))

    def count(self):
        if self.steps == 300:
            raise Over(("worn",))
        self.steps += 1

    def block(self, block, place):
        for number, statement in enumerate(block):
            here = place + (number,)
            self.count()
            if statement[0] == "if":
                which = 0 if self.said(statement[1]) else 1
                yield from self.block(statement[2 + which], here + (which,))
            elif statement[0] == "while":
                while self.said(statement[1]):
                    yield from self.block(statement[2], here + (0,))
                    self.count()
            elif statement[0] == "wait":
                yield from self.wait(statement, here)
            elif statement[0] == "hear":
                yield from self.hear(statement, here)
            else:
                self.plain(statement)

    def plain(self, statement):
        kind = statement[0]
        worths = [self.said(part) for part in statement[1:] if isinstance(part, tuple)]
        if kind == "end":
            raise Over(("end", worths[0]))
        if kind == "set":
            self.names[statement[1]] = worths[0]
        elif kind == "send":
            self.commands.append(("send", worths[0], statement[2], worths[1]))
        elif kind == "drop":
            if worths[0] is not None and 0 <= worths[0] < len(self.tickets) and self.tickets[worths[0]] == "open":
                self.tickets[worths[0]] = "dropped"
                self.commands.append(("drop", worths[0]))
        else:
            self.names[statement[1]] = len(self.tickets)
            if kind == "timer":
                later = worths[0] if worths[0] is not None and worths[0] > 0 else 0
                self.commands.append(("timer", len(self.tickets), min(10 ** 12, self.now + later)))
            else:
                self.commands.append((kind, len(self.tickets), statement[2], worths[0]))
            self.tickets.append("open")

    def wait(self, statement, place):
        worths = [self.said(saying) for saying in statement[2]]
        ready = [ticket for ticket, _ in self.done_order if ticket in worths]
        pending = tuple(ticket for ticket in self.open_tickets() if ticket in worths)
        if not ready and pending:
            while not ready:
                yield ("wait", pending), place
                ready = [ticket for ticket, _ in self.done_order if ticket in pending]
        self.names[statement[1]] = ready[0] if ready else None

    def hear(self, statement, place):
        while statement[2] not in [key for key, _ in self.letters]:
            yield ("hear", statement[2]), place
        letter = next(letter for letter in self.letters if letter[0] == statement[2])
        self.letters.remove(letter)
        self.names[statement[1]] = letter[1]

    def open_tickets(self):
        if self.told_state[0] in ("ended", "worn"):
            return []
        return [ticket for ticket, how in enumerate(self.tickets) if how == "open"]

    def take(self, happening):
        kind = happening[0]
        if (kind == "begin") != (self.told_state == ("new",)) or self.told_state[0] in ("ended", "worn"):
            return []
        if kind == "done" and happening[2] not in self.open_tickets():
            return []
        self.now = max(self.now, happening[1])
        if kind == "begin":
            self.arg = happening[2]
            self.way = self.whole()
        elif kind == "done":
            self.tickets[happening[2]] = "done"
            self.done_order.append(happening[2:])
        else:
            self.letters.append(happening[2:])
        self.commands, self.steps = [], 0
        self.go_on()
        return self.commands

    def go_on(self):
        try:
            waits, place = next(self.way)
        except Over as over:
            self.commands.append(over.command)
            self.told_state = over.command if over.command == ("worn",) else ("ended", over.command[1])
            return
        names = tuple(sorted((name, worth) for name, worth in self.names.items() if worth is not None))
        keys = sorted({key for key, _ in self.letters})
        letters = tuple((key, tuple(worth for other, worth in self.letters if other == key)) for key in keys)
        self.told_state = (waits, place, self.arg, self.now, names, len(self.tickets), tuple(self.open_tickets()),
                           tuple(self.done_order), letters)


class AgainstTheModel(unittest.TestCase):
    def check(self, seed):
        chance = random.Random(seed)
        program = some_program(chance)
        text = show_program(program)
        self.assertEqual(read_program(text), program)
        run, model, row, told, states = Run(program), Model(program), [], [], [("new",)]
        for k in range(chance.choice((5, 20, 60))):
            happening = some_happening(chance, run) if k != 2 else ("begin", 3, chance.choice(WORTHS))
            commands = run.take(happening)
            self.assertEqual(commands, model.take(happening), (text, row, happening))
            state = run.state()
            self.assertEqual(state, model.told_state, (text, row, happening))
            self.assertEqual(run.open_tickets(), model.open_tickets())
            self.assertEqual(run.waits(), state[0] if len(state) == 9 else state)
            row.append(happening)
            told.append(commands)
            states.append(state)
        return program, row, told, states

    def test_commands_and_states(self):
        ends = {}
        for seed in range(PROGRAMS):
            last = self.check(seed)[3][-1]
            kind = last[0] if isinstance(last[0], str) else last[0][0]
            ends[kind] = ends.get(kind, 0) + 1
        # That chance led to all of them.
        self.assertTrue(all(ends[kind] > 20 for kind in ("wait", "hear", "ended", "worn")), ends)

    def test_run_again_over_each_beginning(self):
        for seed in range(0, PROGRAMS, 10):
            program, row, told, states = self.check(seed)
            self.assertEqual(read_log(show_log([one for one in row if one[0] != "done" or one[2] >= 0])),
                             [one for one in row if one[0] != "done" or one[2] >= 0])
            for many in range(len(row) + 1):
                run, commands = run_again(program, row[:many])
                self.assertEqual(commands, told[:many])
                self.assertEqual(run.state(), states[many])

    def test_equal_states_tell_the_same(self):
        # Two rows in which two happenings change places; where both come to one state, they go on alike.
        met = 0
        for seed in range(0, PROGRAMS, 10):
            program, row, told, states = self.check(seed)
            for k in range(len(row) - 2):
                one = run_again(program, row[:k + 2])[0]
                other = run_again(program, row[:k] + [row[k + 1], row[k]])[0]
                if one.state() == other.state() and one.waits()[0] in ("wait", "hear") and row[k] != row[k + 1]:
                    met += 1
                    for happening in row[k + 2:]:
                        self.assertEqual(one.take(happening), other.take(happening))
                        self.assertEqual(one.state(), other.state())
        self.assertGreater(met, 100)


if __name__ == "__main__":
    unittest.main()
