"""Boards: what stands open in a house, by run and ticket."""


class Board:
    def __init__(self):
        # Run by run, so that all of a run that is no more are rubbed out at once.
        self.by_run = {}

    def put(self, run, ticket, thing):
        self.by_run.setdefault(run, {})[ticket] = thing

    def has(self, run, ticket):
        return ticket in self.by_run.get(run, {})

    def rub_out(self, run, ticket):
        self.by_run.get(run, {}).pop(ticket, None)

    def rub_out_all(self, run):
        self.by_run.pop(run, None)

    def things(self):
        told = []
        for run in sorted(self.by_run):
            tickets = self.by_run[run]
            told.extend([tickets[ticket] for ticket in sorted(tickets)])
        return told
