"""Tickets: which of a run's are open, and by what worths others were done."""


class Tickets:
    def __init__(self):
        self.made = 0
        self.pending = {}
        # In the order in which they were done.
        self.answers = {}

    def make(self):
        ticket = self.made
        self.made += 1
        self.pending[ticket] = True
        return ticket

    def is_open(self, ticket):
        return ticket in self.pending

    def those_open(self):
        return sorted(self.pending)

    def finish(self, ticket, worth):
        self.shut(ticket)
        self.answers[ticket] = worth

    def shut(self, ticket):
        self.pending.pop(ticket)

    def shut_all(self):
        self.pending.clear()

    def first_done(self, worths):
        tickets = [worth for worth in worths if worth in self.answers]
        # A run may have very many done, so they are gone through only where the order counts.
        if len(set(tickets)) < 2:
            return tickets[0] if tickets else None
        return [ticket for ticket in self.answers if ticket in tickets][0]
