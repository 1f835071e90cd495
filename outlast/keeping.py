"""What is kept: inputs written and read, and houses that come up from them."""

from outlast.house import House
from outlast.rows import read_rows, show_rows

INPUTS = {
    "start": ("moment", "name", "worth"),
    "answer": ("moment", "number", "number", "worth"),
    "letter": ("moment", "number", "name", "worth"),
    "tick": ("moment",),
}


def show_inputs(inputs):
    return show_rows(inputs)


def read_inputs(text):
    return read_rows(text, dict(INPUTS))


def keep_house(house):
    return show_inputs(house.inputs())


def come_up_house(programs, text):
    return house_of(programs, read_inputs(text))


def house_of(programs, inputs):
    house = House(programs)
    for some in inputs:
        house.take(some)
    return house
