"""Programs, inputs and choices made by chance (from written seeds): houses held against a second way to keep one, by
the document's words, texts cut anywhere, and yards against a second way to move one, with what must hold whatever the
choices are."""

import random
import unittest

from outlast.house import House
from outlast.keeping import come_up_house, keep_house, read_inputs, show_inputs
from outlast.logs import run_again
from outlast.programs import show_program
from outlast.readers import read_program
from outlast.runs import Run
from outlast.yards import Yard

NAMES = ("a", "b", "c", "d")
KEYS = ("k", "l")
PROGRAMS = ("one", "two", "three", "four")
WORKS = ("bake", "brew", "mend", "idle")
WORTHS = (None, 0, 1, 2, 3, 4, 5, -1, 7, 10 ** 9, -10 ** 9)
TRADE = {"bake": ("sum", 10), "brew": ("count",), "mend": ("sum", -10 ** 9)}
HOUSES = 400
YARDS = 200


def some_saying(chance, deep=1):
    form = chance.randrange(10)
    if deep == 6 or form < 7:
        return chance.choice((("number", chance.choice(WORTHS[1:])), ("number", chance.randrange(6)), ("none",),
                              ("name", chance.choice(NAMES)), ("name", chance.choice(NAMES)), ("arg",), ("now",)))
    if form < 8:
        return (chance.choice(("answer", "not")), some_saying(chance, deep + 1))
    return (chance.choice("+-*<="), some_saying(chance, deep + 1), some_saying(chance, deep + 1))


def some_ticket(chance):
    if chance.random() < 0.85:
        return chance.choice((("name", chance.choice(NAMES)), ("number", chance.choice((0, 1, 2)))))
    return some_saying(chance)


def some_number(chance):
    # Mostly what is likely the number of a run.
    return ("number", chance.randrange(7)) if chance.random() < 0.8 else some_saying(chance)


def some_statement(chance, deep):
    kind = chance.choice(("set", "order", "order", "timer", "timer", "child", "child", "send", "send", "drop", "wait",
                          "wait", "wait", "wait", "hear", "hear", "if", "while", "while", "end"))
    name = chance.choice(NAMES)
    if kind == "set":
        return (kind, name, some_saying(chance))
    if kind == "order":
        return (kind, name, chance.choice(WORKS), some_saying(chance))
    if kind == "child":
        return (kind, name, chance.choice(PROGRAMS), some_saying(chance))
    if kind == "timer":
        return (kind, name, ("number", chance.randrange(9)) if chance.random() < 0.7 else some_saying(chance))
    if kind == "send":
        return (kind, some_number(chance), chance.choice(KEYS), some_saying(chance))
    if kind == "wait":
        return (kind, name, tuple(some_ticket(chance) for _ in range(chance.randint(1, 4))))
    if kind == "hear":
        return (kind, name, chance.choice(KEYS))
    if kind == "drop" or deep == 3 or (kind == "end" and chance.random() < 0.6):
        return ("drop", some_ticket(chance))
    if kind == "end":
        return (kind, some_saying(chance))
    if kind == "if":
        return (kind, some_saying(chance), some_block(chance, deep + 1), some_block(chance, deep + 1))
    return (kind, some_saying(chance), some_block(chance, deep + 1))


def some_block(chance, deep):
    return tuple(some_statement(chance, deep) for _ in range(chance.randint(0, 7 if deep == 0 else 3)))


def how_many(block):
    return sum(1 + sum(how_many(part) for part in statement[2:]) if statement[0] in ("if", "while") else 1
               for statement in block)


def some_rest(chance):
    # Where a run comes to rest: most programs have one, else nearly all runs would end at their begins.
    if chance.random() < 0.5:
        return (("hear", chance.choice(NAMES), chance.choice(KEYS)),)
    kind = chance.choice(("order", "timer"))
    end = (chance.choice(WORKS), some_saying(chance)) if kind == "order" else (("number", chance.randrange(9)),)
    return ((kind, "d") + end, ("wait", "c", (("name", "d"), some_ticket(chance))))


def some_program(chance):
    while True:
        program = some_block(chance, 1) + some_rest(chance) + some_block(chance, 1) + some_rest(chance)
        if chance.random() < 0.4:
            program = (("while", ("number", 1), program),)
        if how_many(program) <= 60:
            return program


def some_programs(chance):
    # One of the names that children have isn't there.
    return {name: some_program(chance) if chance.random() < 0.8 else some_block(chance, 0) for name in PROGRAMS[:3]}


def some_input(chance, house):
    moment = max(0, house.moment() + chance.choice((0, 0, 0, 1, 2, 5, -1, -5)))
    form = chance.randrange(10)
    orders = house.open_orders()
    worth = chance.choice(WORTHS)
    if form < 3 or not house.runs():
        return ("start", moment, chance.choice(PROGRAMS), worth)
    if form < 6 and orders:
        order = chance.choice(orders)
        return ("answer", moment, order[1], order[2], worth)
    if form < 4:
        return ("answer", moment, chance.randint(-1, house.runs()), chance.randint(-1, 4), worth)
    if form < 8:
        return ("letter", moment, chance.randint(-1, house.runs()), chance.choice(KEYS), worth)
    due = house.next_due()
    return ("tick", moment if due is None or chance.random() < 0.5 else due)


def told(house):
    return (house.moment(), house.inputs(), house.runs(), house.open_orders(), house.open_timers(), house.next_due(),
            [(house.program_of(run), house.waits(run), house.taken(run), house.parent(run))
             for run in range(house.runs())])


class SecondHouse:
    """The same by the document's words: what is open is looked for among all commands that were ever told."""

    def __init__(self, programs):
        self.programs = programs
        self.kept = []
        self.now = 0
        self.all = []

    def begin(self, name, parent):
        self.all.append({"name": name, "parent": parent, "run": Run(self.programs[name]), "took": [], "told": []})
        return len(self.all) - 1

    def open_of(self, kind):
        found = []
        for number, one in enumerate(self.all):
            still = one["run"].open_tickets()
            found += [(number,) + command[1:] for command in one["told"]
                      if command[0] == kind and command[1] in still]
        return found

    def orders(self):
        return [("order",) + order for order in sorted(self.open_of("order"), key=lambda order: order[:2])]

    def timers(self):
        return sorted((due, number, ticket) for number, ticket, due in self.open_of("timer"))

    def goes(self, number):
        return number in range(len(self.all)) and self.all[number]["run"].waits()[0] not in ("ended", "worn")

    def first(self, some):
        if some[0] == "start" and some[2] in self.programs:
            return [(self.begin(some[2], None), ("begin", self.now, some[3]))]
        if some[0] == "answer" and some[2:4] in [order[1:3] for order in self.orders()]:
            return [(some[2], ("done", self.now, some[3], some[4]))]
        if some[0] == "letter" and self.goes(some[2]):
            return [(some[2], ("letter", self.now) + some[3:])]
        if some[0] == "tick":
            return [(number, ("done", self.now, ticket, None)) for due, number, ticket in self.timers()
                    if due <= self.now]
        return []

    def take(self, some):
        self.kept.append(some)
        self.now = max(self.now, some[1])
        row = self.first(some)
        out = []
        for _ in range(300):
            if row:
                number, happening = row.pop(0)
                one = self.all[number]
                one["took"].append(happening)
                commands = one["run"].take(happening)
                one["told"] += commands
                for command in commands:
                    self.obey(number, command, row, out)
        return out + [("spent",)] if row else out

    def obey(self, number, command, row, out):
        if command[0] == "order":
            out.append(("order", number) + command[1:])
        if command[0] == "child" and command[2] in self.programs:
            row.append((self.begin(command[2], (number, command[1])), ("begin", self.now, command[3])))
        elif command[0] == "child":
            row.append((number, ("done", self.now, command[1], None)))
        if command[0] == "send" and self.goes(command[1]):
            row.append((command[1], ("letter", self.now) + command[2:]))
        elif command[0] == "send":
            out.append(("lost", number) + command[1:])
        if command[0] == "worn":
            out.append(("worn", number))
        if command[0] == "end":
            out.append(("ended", number, command[1]))
            parent = self.all[number]["parent"]
            if parent and parent[1] in self.all[parent[0]]["run"].open_tickets():
                row.append((parent[0], ("done", self.now, parent[1], command[1])))

    def all_told(self):
        timers = self.timers()
        return (self.now, self.kept, len(self.all), self.orders(), timers, timers[0][0] if timers else None,
                [(one["name"], one["run"].waits(), one["took"], one["parent"]) for one in self.all])


class Houses(unittest.TestCase):
    def test_against_a_second_way(self):
        seen = {}
        for seed in range(HOUSES):
            chance = random.Random(f"house {seed}")
            programs = some_programs(chance)
            house = House(programs)
            second = SecondHouse(programs)
            for _ in range(chance.randint(1, 24)):
                some = some_input(chance, house)
                out = house.take(some)
                self.assertEqual(out, second.take(some), (seed, some))
                for one in out:
                    seen[one[0]] = seen.get(one[0], 0) + 1
                if house.runs() > 500:
                    break
                self.assertEqual(told(house), second.all_told(), (seed, some))
        self.assertGreater(min(seen[kind] for kind in ("order", "lost", "ended", "worn", "spent")), 10, seen)

    def test_each_run_again_over_what_it_took(self):
        for seed in range(0, HOUSES, 5):
            chance = random.Random(f"again {seed}")
            programs = some_programs(chance)
            house = House(programs)
            for _ in range(chance.randint(1, 10)):
                house.take(some_input(chance, house))
            for number in range(min(house.runs(), 100)):
                run, commands = run_again(programs[house.program_of(number)], house.taken(number))
                self.assertEqual(run.waits(), house.waits(number))
                still = set(run.open_tickets())
                self.assertLessEqual({order[2] for order in house.open_orders() if order[1] == number}, still)
                self.assertLessEqual({timer[2] for timer in house.open_timers() if timer[1] == number}, still)


class Kept(unittest.TestCase):
    def test_come_up_anywhere(self):
        for seed in range(0, HOUSES, 4):
            chance = random.Random(f"kept {seed}")
            # Through their texts, too: what comes up may have read its programs again.
            programs = some_programs(chance)
            again = {name: read_program(show_program(program)) for name, program in programs.items()}
            house = House(programs)
            tolds = [told(house)]
            outs = []
            for _ in range(chance.randint(1, 10)):
                outs.append(house.take(some_input(chance, house)))
                tolds.append(told(house))
                if house.runs() > 1000:
                    break
            row = house.inputs()
            text = keep_house(house)
            self.assertEqual(text, show_inputs(row))
            self.assertEqual(read_inputs(text), row)
            for cut in chance.sample(range(len(text) + 1), 5) + [len(text)]:
                lines = text[:cut].count("\n")
                other = come_up_house(again, text[:cut])
                self.assertEqual(told(other), tolds[lines], (seed, cut))
                for number in range(lines, len(row)):
                    self.assertEqual(other.take(row[number]), outs[number], (seed, cut, number))
                self.assertEqual(told(other), tolds[-1], (seed, cut))


class SecondYard:
    """The same, by counting through the moves as the document lists them."""

    def __init__(self, programs, starts):
        self.programs = programs
        self.home = SecondHouse(programs)
        self.out = []
        self.letters = []
        self.starts = starts
        self.done = {}

    def tell(self, some):
        out = self.home.take(some)
        self.out += [one for one in out if one[0] == "order"]
        self.letters += [one for one in out if one[0] == "order"]

    def moves(self):
        many = len(self.letters)
        return (1 if self.starts else 0) + many * (2 if many >= 60 else 3) + 1 + (1 if self.home.timers() else 0) + 1

    def move(self, choice):
        left = choice % self.moves()
        many = len(self.letters)
        if self.starts:
            if left == 0:
                return self.start()
            left -= 1
        if left < many:
            return self.come(left)
        left -= many
        if left < many:
            return self.letters.pop(left)
        left -= many
        if many < 60:
            if left < many:
                return self.letters.append(self.letters[left])
            left -= many
        if left == 0:
            self.letters += self.home.orders()
        elif left == 1 and self.home.timers():
            self.tick()
        else:
            self.stop()

    def start(self):
        name, worth = self.starts.pop(0)
        self.tell(("start", self.home.now, name, worth))

    def come(self, place):
        letter = self.letters.pop(place)
        if letter[0] == "answer":
            return self.tell(("answer", self.home.now) + letter[1:])
        run, ticket, work, worth = letter[1:]
        if (run, ticket) not in self.done:
            so_many = 1 + sum(1 for deed in self.done.values() if deed[2] == work)
            answer = {"bake": max(-10 ** 9, min(10 ** 9, (worth or 0) + 10)), "brew": so_many,
                      "mend": max(-10 ** 9, (worth or 0) - 10 ** 9)}.get(work)
            self.done[run, ticket] = (run, ticket, work, worth, answer)
        self.letters.append(("answer", run, ticket, self.done[run, ticket][4]))

    def tick(self):
        self.tell(("tick", max(self.home.now, self.home.timers()[0][0])))

    def stop(self):
        kept = self.home.kept
        self.home = SecondHouse(self.programs)
        for some in kept:
            self.home.take(some)
        self.letters += self.home.orders()

    def quiet(self, rounds):
        while self.starts:
            self.start()
        for _ in range(rounds):
            self.all_come()
            self.letters += self.home.orders()
            self.all_come()
            if self.home.timers():
                self.tick()
            if not self.home.orders() and not self.home.timers():
                break

    def all_come(self):
        came = 0
        while self.letters and came < 600:
            self.come(0)
            came += 1


class Yards(unittest.TestCase):
    def yard(self, chance):
        programs = some_programs(chance)
        starts = [(chance.choice(PROGRAMS), chance.choice(WORTHS)) for _ in range(chance.randint(0, 4))]
        return (programs, starts, Yard(programs, TRADE, starts))

    def same(self, yard, second, words):
        self.assertEqual(yard.road(), second.letters, words)
        self.assertEqual(yard.deeds(), list(second.done.values()), words)
        self.assertEqual(yard.moves(), second.moves(), words)
        self.assertEqual(yard.house().inputs(), second.home.kept, words)

    def test_against_a_second_way(self):
        for seed in range(YARDS):
            chance = random.Random(f"yard {seed}")
            programs, starts, yard = self.yard(chance)
            second = SecondYard(programs, list(starts))
            for number in range(chance.randint(1, 40)):
                choice = chance.choice((chance.randrange(10), chance.randrange(-10, 200), chance.randrange(-5, 0)))
                yard.move(choice)
                second.move(choice)
                self.same(yard, second, (seed, number, choice))
                if yard.house().runs() > 300 or len(yard.road()) > 200:
                    break
            self.assertEqual(told(yard.house()), second.home.all_told(), seed)
            if yard.house().runs() < 100:
                rounds = chance.randrange(3)
                yard.quiet(rounds)
                second.quiet(rounds)
                self.same(yard, second, (seed, "quiet", rounds))

    def test_whatever_the_choices(self):
        counts = {"deeds": 0, "answers": 0, "rings": 0, "stops": 0}
        for seed in range(YARDS):
            chance = random.Random(f"whatever {seed}")
            programs, starts, yard = self.yard(chance)
            for _ in range(chance.randint(5, 60)):
                house = yard.house()
                before = told(house)
                yard.move(chance.randrange(-50, 10 ** 6))
                if yard.house() is not house:
                    counts["stops"] += 1
                    self.assertEqual(told(yard.house()), before, seed)
                if yard.house().runs() > 500 or len(yard.road()) > 500:
                    break
            yard.quiet(chance.randrange(3))
            self.holds(programs, yard, counts, seed)
        self.assertGreater(min(counts.values()), 50, counts)

    def holds(self, programs, yard, counts, seed):
        house = House(programs)
        out = [one for some in yard.house().inputs() for one in house.take(some)]
        self.assertEqual(told(house), told(yard.house()), seed)
        deeds = yard.deeds()
        counts["deeds"] += len(deeds)
        answers = {deed[:2]: deed[4] for deed in deeds}
        self.assertEqual(len(answers), len(deeds), seed)
        orders = [one for one in out if one[0] == "order"]
        self.assertEqual(len({order[1:3] for order in orders}), len(orders), seed)
        for deed in deeds:
            self.assertIn(("order",) + deed[:4], orders, seed)
        for number in range(house.runs()):
            self.taken_holds(programs[house.program_of(number)], number, house.taken(number), answers, counts)

    def taken_holds(self, program, number, taken, answers, counts):
        made = {command[1]: command for commands in run_again(program, taken)[1] for command in commands
                if command[0] in ("order", "timer", "child")}
        seen = set()
        for happening in taken:
            if happening[0] == "done":
                command = made[happening[2]]
                self.assertNotIn(happening[2], seen)
                seen.add(happening[2])
                if command[0] == "order":
                    counts["answers"] += 1
                    self.assertEqual(happening[3], answers[number, happening[2]])
                if command[0] == "timer":
                    counts["rings"] += 1
                    self.assertIsNone(happening[3])
                    self.assertGreaterEqual(happening[1], command[2])


if __name__ == "__main__":
    unittest.main()
