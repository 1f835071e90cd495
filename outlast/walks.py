"""Walks: where in its program a run stands, and how it comes from statement to statement."""


class Walk:
    def __init__(self, program):
        # The blocks within which it stands, from the program on, and the numbers that make up its place.
        self.blocks = [program]
        self.numbers = [0]

    def come_to(self):
        # The statement to do, or None behind the program's last one.
        while self.numbers[-1] == len(self.blocks[-1]):
            if len(self.blocks) == 1:
                return None
            self.leave()
        return self.stands_at()

    def stands_at(self):
        return self.blocks[-1][self.numbers[-1]]

    def pass_by(self):
        self.numbers[-1] += 1

    def enter(self, which):
        self.blocks.append(self.stands_at()[2 + which])
        self.numbers.extend([which, 0])

    def leave(self):
        self.blocks.pop()
        self.numbers.pop()
        self.numbers.pop()
        # A while isn't passed: it is looked at again.
        if self.stands_at()[0] == "if":
            self.pass_by()

    def place(self):
        return tuple(self.numbers)

    def go_to(self, place):
        for which in place[1::2]:
            self.numbers[-1] = place[len(self.numbers) - 1]
            self.enter(which)
        self.numbers[-1] = place[-1]
