"""Workers: they do orders by their trade, and none twice."""

from outlast.sayings import number_of
from outlast.worths import kept


class Worker:
    def __init__(self, trade):
        self.trade = dict(trade)
        # What it answered, by run and ticket.
        self.known = {}
        self.counts = {}
        self.records = []

    def do(self, run, ticket, work, worth):
        if (run, ticket) not in self.known:
            self.counts[work] = self.counts.get(work, 0) + 1
            answer = self.answer_of(work, worth)
            self.known[(run, ticket)] = answer
            self.records.append((run, ticket, work, worth, answer))
        return self.known[(run, ticket)]

    def answer_of(self, work, worth):
        way = self.trade.get(work)
        if way is None:
            return None
        if way[0] == "count":
            return self.counts[work]
        return kept(number_of(worth) + number_of(way[1]))

    def deeds(self):
        return list(self.records)
