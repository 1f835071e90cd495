"""Sayings: what each tells, by the names, arg, now and the answers of tickets."""

from outlast.worths import kept


def worth_of(saying, names, arg, now, answers):
    kind = saying[0]
    if kind == "number":
        return saying[1]
    if kind == "none":
        return None
    if kind == "name":
        return names.get(saying[1])
    if kind == "arg":
        return arg
    if kind == "now":
        # A moment may be greater than every worth.
        return kept(now)
    one = worth_of(saying[1], names, arg, now, answers)
    if kind == "answer":
        return answers.get(one)
    if kind == "not":
        return one_or_nought(number_of(one) == 0)
    other = worth_of(saying[2], names, arg, now, answers)
    return joined(kind, one, other)


def joined(sign, one, other):
    if sign == "=":
        # Compared as they are: None is one worth with None, not with 0.
        return one_or_nought(one == other)
    left = number_of(one)
    right = number_of(other)
    if sign == "<":
        return one_or_nought(left < right)
    if sign == "+":
        return kept(left + right)
    if sign == "-":
        return kept(left - right)
    return kept(left * right)


def number_of(worth):
    return 0 if worth is None else worth


def one_or_nought(truth):
    return 1 if truth else 0
