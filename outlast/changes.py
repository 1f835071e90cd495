"""Changed programs: where two part over a log, and whether a running one may be changed."""

from outlast.logs import run_again


def part_at(one, other, happenings):
    return first_unlike_commands(run_again(one, happenings)[1], run_again(other, happenings)[1])


def changed(old, new, happenings):
    again = run_again(new, happenings)
    parting = first_unlike_commands(run_again(old, happenings)[1], again[1])
    return ("let", again[0]) if parting is None else ("parts",) + parting


def first_unlike_commands(first, second):
    for number, commands in enumerate(first):
        if commands != second[number]:
            return (number, commands, second[number])
    return None
