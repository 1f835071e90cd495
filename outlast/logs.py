"""Logs: happenings written and read, and programs run again over them."""

from outlast.rows import read_rows, show_rows
from outlast.runs import Run

HAPPENINGS = {
    "begin": ("moment", "worth"),
    "done": ("moment", "ticket", "worth"),
    "letter": ("moment", "name", "worth"),
}


def show_log(happenings):
    return show_rows(happenings)


def read_log(text):
    return read_rows(text, dict(HAPPENINGS))


def run_again(program, happenings):
    run = Run(program)
    commands = [run.take(happening) for happening in happenings]
    return (run, commands)
