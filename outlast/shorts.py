"""Short logs: a run kept as a text of its state, and how it comes up from it."""

from outlast.rows import show_rows
from outlast.runs import Run
from outlast.states import SHORT_STATES, read_state


def keep_run(run):
    return show_rows(state_rows(run.state()))


def come_up_run(program, text):
    return run_at(program, read_state(program, text))


def state_rows(state):
    if state[0] in SHORT_STATES:
        return [state]
    sleep = state[0]
    rows = [("at",) + state[1]]
    if sleep[0] == "wait":
        rows.append(("for",) + sleep[1])
    rows.extend([("now", state[3]), ("arg", state[2])])
    rows.extend([("name",) + pair for pair in state[4]])
    rows.append(("made", state[5]))
    rows.extend([("open", ticket) for ticket in state[6]])
    rows.extend([("done",) + pair for pair in state[7]])
    for key, worths in state[8]:
        rows.extend([("letter", key, worth) for worth in worths])
    return rows


def run_at(program, state):
    # The run that stands so, whatever row of happenings led there.
    run = Run(program)
    if state[0] in SHORT_STATES:
        run.sleep = state
        return run
    run.sleep = state[0]
    run.walk.go_to(state[1])
    run.arg = state[2]
    run.now = state[3]
    run.names = dict(state[4])
    run.tickets.made = state[5]
    run.tickets.pending = dict([(ticket, True) for ticket in state[6]])
    run.tickets.answers = dict(state[7])
    run.letters = dict([(key, list(worths)) for key, worths in state[8]])
    return run
