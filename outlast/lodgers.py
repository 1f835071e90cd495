"""Lodgers: the runs of a house, with what the house knows of each."""

from outlast.runs import Run


class Lodger:
    def __init__(self, name, plan, begun_by):
        self.name = name
        self.plan = plan
        self.begun_by = begun_by
        # Made at its begin: a house may have very many whose begins were dropped.
        self.run = None
        self.happenings = []

    def take(self, happening):
        self.happenings.append(happening)
        if happening[0] == "begin":
            self.run = Run(self.plan)
        return [] if self.run is None else self.run.take(happening)

    def waits(self):
        return ("new",) if self.run is None else self.run.waits()

    def is_over(self):
        return self.waits()[0] in ("ended", "worn")

    def has_open(self, ticket):
        return self.run is not None and self.run.tickets.is_open(ticket)
