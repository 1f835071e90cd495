"""Runs: programs that go on from happening to happening."""

from outlast.sayings import worth_of
from outlast.tickets import Tickets
from outlast.walks import Walk
from outlast.worths import GREATEST_MOMENT

MOST_AT_ONCE = 300


def do_set(run, statement):
    run.names[statement[1]] = run.worth(statement[2])
    return []


def do_order(run, statement):
    # Order and child alike: a ticket, a name for whoever does it, and a worth.
    worth = run.worth(statement[3])
    ticket = run.new_ticket(statement[1])
    return [(statement[0], ticket, statement[2], worth)]


def do_timer(run, statement):
    worth = run.worth(statement[2])
    due = min(GREATEST_MOMENT, run.now if worth is None else run.now + max(0, worth))
    ticket = run.new_ticket(statement[1])
    return [("timer", ticket, due)]


def do_send(run, statement):
    return [("send", run.worth(statement[1]), statement[2], run.worth(statement[3]))]


def do_drop(run, statement):
    ticket = run.worth(statement[1])
    if not run.tickets.is_open(ticket):
        return []
    run.tickets.shut(ticket)
    return [("drop", ticket)]


def do_wait(run, statement):
    worths = [run.worth(saying) for saying in statement[2]]
    ticket = run.tickets.first_done(worths)
    pending = sorted(set([worth for worth in worths if run.tickets.is_open(worth)]))
    if ticket is None and pending:
        run.sleep = ("wait", tuple(pending))
    else:
        run.names[statement[1]] = ticket
    return []


def do_hear(run, statement):
    worths = run.letters.get(statement[2], [])
    if worths:
        run.names[statement[1]] = worths.pop(0)
    else:
        run.sleep = ("hear", statement[2])
    return []


def do_end(run, statement):
    return run.end(run.worth(statement[1]))


DEEDS = {
    "set": do_set, "order": do_order, "timer": do_timer, "child": do_order, "send": do_send, "drop": do_drop,
    "wait": do_wait, "hear": do_hear, "end": do_end,
}


class Run:
    def __init__(self, program):
        self.walk = Walk(program)
        # What it waits for; None while it goes on.
        self.sleep = ("new",)
        self.arg = None
        self.now = 0
        self.names = {}
        self.tickets = Tickets()
        self.letters = {}

    def waits(self):
        return self.sleep

    def open_tickets(self):
        return self.tickets.those_open()

    def state(self):
        if self.sleep[0] not in ("wait", "hear"):
            return self.sleep
        names = [(name, self.names[name]) for name in sorted(self.names) if self.names[name] is not None]
        letters = [(key, tuple(self.letters[key])) for key in sorted(self.letters) if self.letters[key]]
        return (
            self.sleep, self.walk.place(), self.arg, self.now, tuple(names), self.tickets.made,
            tuple(self.open_tickets()), tuple(self.tickets.answers.items()), tuple(letters),
        )

    def take(self, happening):
        if self.passes_over(happening):
            return []
        self.now = max(self.now, happening[1])
        if happening[0] == "begin":
            self.arg = happening[2]
            return self.go_on()
        if happening[0] == "done":
            return self.take_done(happening[2], happening[3])
        return self.take_letter(happening[2], happening[3])

    def passes_over(self, happening):
        kind = happening[0]
        if self.sleep[0] == "new":
            return kind != "begin"
        if self.sleep[0] in ("ended", "worn"):
            return True
        return kind == "begin" or (kind == "done" and not self.tickets.is_open(happening[2]))

    def take_done(self, ticket, worth):
        self.tickets.finish(ticket, worth)
        if self.sleep[0] == "wait" and ticket in self.sleep[1]:
            return self.wake(ticket)
        return []

    def take_letter(self, key, worth):
        # A run that hears has no letter of its key, so this is the first one.
        if self.sleep == ("hear", key):
            return self.wake(worth)
        self.letters.setdefault(key, []).append(worth)
        return []

    def wake(self, worth):
        self.names[self.walk.stands_at()[1]] = worth
        self.walk.pass_by()
        return self.go_on()

    def go_on(self):
        self.sleep = None
        commands = []
        many = 0
        while self.sleep is None:
            statement = self.walk.come_to()
            if statement is None:
                commands.extend(self.end(None))
            elif many == MOST_AT_ONCE:
                commands.extend(self.wear_out())
            else:
                many += 1
                commands.extend(self.do_one(statement))
        return commands

    def do_one(self, statement):
        kind = statement[0]
        if kind == "if" or kind == "while":
            self.look(statement)
            return []
        commands = DEEDS[kind](self, statement)
        if self.sleep is None:
            self.walk.pass_by()
        return commands

    def look(self, statement):
        if self.worth(statement[1]) not in (None, 0):
            self.walk.enter(0)
        elif statement[0] == "if":
            self.walk.enter(1)
        else:
            self.walk.pass_by()

    def end(self, worth):
        self.sleep = ("ended", worth)
        self.tickets.shut_all()
        return [("end", worth)]

    def wear_out(self):
        self.sleep = ("worn",)
        self.tickets.shut_all()
        return [("worn",)]

    def worth(self, saying):
        return worth_of(saying, self.names, self.arg, self.now, self.tickets.answers)

    def new_ticket(self, name):
        ticket = self.tickets.make()
        self.names[name] = ticket
        return ticket
