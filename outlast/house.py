"""The house: programs and their runs, which order, set timers, beget and write to one another, input by input."""

from outlast.boards import Board
from outlast.errors import NoRun
from outlast.lodgers import Lodger

MOST_TAKEN = 300


def row_of_start(house, some):
    return [house.new_run(some[2], some[3], None)] if some[2] in house.programs else []


def row_of_answer(house, some):
    return [house.done(some[2], some[3], some[4])] if house.orders.has(some[2], some[3]) else []


def row_of_letter(house, some):
    return [house.letter(some[2], some[3], some[4])] if house.has_going(some[2]) else []


def row_of_tick(house, some):
    return [house.done(run, ticket, None) for due, run, ticket in house.open_timers() if due <= house.latest]


def do_order(house, run, command):
    # Where the run ended or dropped it at the same happening, the command that tells so comes behind.
    order = ("order", run) + command[1:]
    house.orders.put(run, command[1], order)
    return [order]


def do_timer(house, run, command):
    house.timers.put(run, command[1], (command[2], run, command[1]))
    return []


def do_child(house, run, command):
    if command[2] in house.programs:
        house.row.append(house.new_run(command[2], command[3], (run, command[1])))
    else:
        house.row.append(house.done(run, command[1], None))
    return []


def do_send(house, run, command):
    if not house.has_going(command[1]):
        return [("lost", run) + command[1:]]
    house.row.append(house.letter(command[1], command[2], command[3]))
    return []


def do_drop(house, run, command):
    house.forget(run, command[1])
    return []


def do_end(house, run, command):
    house.forget_all(run)
    begun_by = house.lodgers[run].begun_by
    if begun_by is not None and house.lodgers[begun_by[0]].has_open(begun_by[1]):
        house.row.append(house.done(begun_by[0], begun_by[1], command[1]))
    return [("ended", run, command[1])]


def do_worn(house, run, command):
    house.forget_all(run)
    return [("worn", run)]


ROWS = {"start": row_of_start, "answer": row_of_answer, "letter": row_of_letter, "tick": row_of_tick}

DEEDS = {
    "order": do_order, "timer": do_timer, "child": do_child, "send": do_send, "drop": do_drop, "end": do_end,
    "worn": do_worn,
}


class House:
    def __init__(self, programs):
        self.programs = dict(programs)
        self.lodgers = []
        self.came = []
        self.latest = 0
        self.orders = Board()
        self.timers = Board()
        # While an input is taken: pairs of a run's number and the happening that it will take.
        self.row = []

    def take(self, some):
        self.came.append(some)
        self.latest = max(self.latest, some[1])
        self.row = ROWS[some[0]](self, some)
        told = []
        many = 0
        while many < len(self.row) and many < MOST_TAKEN:
            told.extend(self.hand(self.row[many][0], self.row[many][1]))
            many += 1
        if many < len(self.row):
            told.append(("spent",))
        self.row = []
        return told

    def hand(self, run, happening):
        commands = self.lodgers[run].take(happening)
        if happening[0] == "done":
            self.forget(run, happening[2])
        told = []
        for command in commands:
            told.extend(DEEDS[command[0]](self, run, command))
        return told

    def moment(self):
        return self.latest

    def inputs(self):
        return list(self.came)

    def runs(self):
        return len(self.lodgers)

    def program(self, name):
        return self.programs.get(name)

    def program_of(self, run):
        return self.lodger(run).name

    def waits(self, run):
        return self.lodger(run).waits()

    def taken(self, run):
        return list(self.lodger(run).happenings)

    def parent(self, run):
        return self.lodger(run).begun_by

    def open_orders(self):
        return self.orders.things()

    def open_timers(self):
        return sorted(self.timers.things())

    def next_due(self):
        return min([timer[0] for timer in self.timers.things()], default=None)

    def lodger(self, run):
        if not self.has(run):
            raise NoRun("no run has that number")
        return self.lodgers[run]

    def has(self, run):
        return run is not None and 0 <= run < len(self.lodgers)

    def has_going(self, run):
        return self.has(run) and not self.lodgers[run].is_over()

    def new_run(self, name, worth, begun_by):
        self.lodgers.append(Lodger(name, self.programs[name], begun_by))
        return (len(self.lodgers) - 1, ("begin", self.latest, worth))

    def done(self, run, ticket, worth):
        return (run, ("done", self.latest, ticket, worth))

    def letter(self, run, key, worth):
        return (run, ("letter", self.latest, key, worth))

    def forget(self, run, ticket):
        self.orders.rub_out(run, ticket)
        self.timers.rub_out(run, ticket)

    def forget_all(self, run):
        self.orders.rub_out_all(run)
        self.timers.rub_out_all(run)
