"""Yards: a house, a worker and the road between, on which letters may come late, twice or never."""

from outlast.house import House
from outlast.keeping import house_of
from outlast.workers import Worker

MOST_TO_DOUBLE = 60
MOST_COMING = 600


class Yard:
    def __init__(self, programs, trade, starts):
        self.programs = dict(programs)
        self.home = House(programs)
        self.worker = Worker(trade)
        self.on_road = []
        self.starts_left = list(starts)

    def house(self):
        return self.home

    def deeds(self):
        return self.worker.deeds()

    def road(self):
        return list(self.on_road)

    def moves(self):
        return len(self.choices())

    def move(self, choice):
        choices = self.choices()
        chosen = choices[choice % len(choices)]
        self.make_move(chosen[0], chosen[1])

    def quiet(self, rounds):
        while self.starts_left:
            self.make_start()
        for number in range(rounds):
            self.go_round()
            if self.is_quiet():
                return

    def choices(self):
        # Pairs of a kind of move and the number of the letter on the road that it is of.
        places = list(range(len(self.on_road)))
        told = [("start", None)] if self.starts_left else []
        told.extend([("come", place) for place in places])
        told.extend([("lose", place) for place in places])
        if len(places) < MOST_TO_DOUBLE:
            told.extend([("double", place) for place in places])
        told.append(("again", None))
        if self.home.next_due() is not None:
            told.append(("tick", None))
        told.append(("stop", None))
        return told

    def make_move(self, kind, place):
        if kind == "start":
            self.make_start()
        elif kind == "come":
            self.let_come(place)
        elif kind == "lose":
            self.on_road.pop(place)
        elif kind == "double":
            self.on_road.append(self.on_road[place])
        elif kind == "again":
            self.send_again()
        elif kind == "tick":
            self.tick()
        else:
            self.stop()

    def make_start(self):
        start = self.starts_left.pop(0)
        self.tell_house(("start", self.home.moment(), start[0], start[1]))

    def let_come(self, place):
        letter = self.on_road.pop(place)
        if letter[0] == "order":
            answer = self.worker.do(letter[1], letter[2], letter[3], letter[4])
            self.on_road.append(("answer", letter[1], letter[2], answer))
        else:
            self.tell_house(("answer", self.home.moment()) + letter[1:])

    def send_again(self):
        self.on_road.extend(self.home.open_orders())

    def tick(self):
        self.tell_house(("tick", max(self.home.next_due(), self.home.moment())))

    def stop(self):
        # From the inputs, not from their text: an asker may have had the house take what no text can tell.
        self.home = house_of(self.programs, self.home.inputs())
        self.send_again()

    def tell_house(self, some):
        self.on_road.extend([told for told in self.home.take(some) if told[0] == "order"])

    def go_round(self):
        self.let_all_come()
        self.send_again()
        self.let_all_come()
        if self.home.next_due() is not None:
            self.tick()

    def let_all_come(self):
        for number in range(MOST_COMING):
            if self.on_road:
                self.let_come(0)

    def is_quiet(self):
        return not self.home.open_orders() and self.home.next_due() is None
