"""Parting rows: the first of the shortest rows of happenings that part two programs."""

from outlast.shorts import run_at
from outlast.states import SHORT_STATES

NEW = ("new",)


def parting_row(one, other, worths, keys, many):
    # Rows that come to a pair of states to which others came go on as these, so the first one alone is gone on with.
    met = {}
    ways = [([], NEW, NEW)]
    for length in range(many):
        longer = []
        for row, first, second in ways:
            for happening in happenings_behind(first, second, worths, keys):
                left = step(one, first, happening)
                right = step(other, second, happening)
                if left[0] != right[0]:
                    return ("parts", row + [happening])
                pair = (left[1], right[1])
                if pair not in met:
                    met[pair] = True
                    longer.append((row + [happening], left[1], right[1]))
        if not longer:
            return ("never", len(met))
        ways = longer
    return ("none",)


def happenings_behind(first, second, worths, keys):
    if first == NEW:
        return [("begin", 0, worth) for worth in worths[:1]]
    happenings = []
    for ticket in sorted(set(tickets_open(first) + tickets_open(second))):
        happenings.extend([("done", 0, ticket, worth) for worth in worths])
    for key in keys:
        happenings.extend([("letter", 0, key, worth) for worth in worths])
    return happenings


def tickets_open(state):
    return () if state[0] in SHORT_STATES else state[6]


def step(program, state, happening):
    run = run_at(program, state)
    commands = run.take(happening)
    return (commands, run.state())
