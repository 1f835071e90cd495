"""Rows of words: tuples that a text writes by lines, and how they are read back."""

from outlast.errors import NoLog
from outlast.figures import is_number_word
from outlast.worths import GREATEST_MOMENT, GREATEST_WORTH, is_name

GREATEST_TICKET = 1000000000


def show_rows(rows):
    return "".join([show_row(row) + "\n" for row in rows])


def show_row(row):
    return " ".join([show_word(thing) for thing in row])


def show_word(thing):
    return "-" if thing is None else str(thing)


def read_rows(text, forms):
    # Forms tell, by a row's first word, what each of the others is.
    rows = []
    for number, line in enumerate(text.split("\n")[:-1]):
        words = line.split(" ")
        kinds = forms.get(words[0])
        if not is_row(words, kinds):
            raise NoLog(number)
        rows.append(row_of(words, kinds))
    return rows


def is_row(words, kinds):
    if kinds is None or len(words) != len(kinds) + 1:
        return False
    return all([is_word_of(kind, word) for kind, word in zip(kinds, words[1:])])


def is_word_of(kind, word):
    if kind == "name":
        return is_name(word)
    if kind == "moment":
        return is_number_word(word, 0, GREATEST_MOMENT)
    if kind == "ticket":
        return is_number_word(word, 0, GREATEST_TICKET)
    if kind == "number":
        # At most forty figures, below 0 too.
        return is_number_word(word, 1 - 10 ** 40, 10 ** 40 - 1)
    return word == "-" or is_number_word(word, -GREATEST_WORTH, GREATEST_WORTH)


def row_of(words, kinds):
    return tuple([words[0]] + [thing_of(kind, word) for kind, word in zip(kinds, words[1:])])


def thing_of(kind, word):
    if kind == "name":
        return word
    return None if word == "-" else int(word)
