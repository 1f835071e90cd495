"""Worths, moments and names: what is one, and how numbers are kept within the worths."""

GREATEST_WORTH = 1000000000
GREATEST_MOMENT = 1000000000000
LONGEST_NAME = 6

OWN_WORDS = (
    "order", "timer", "child", "send", "drop", "wait", "hear", "if", "else", "done", "while", "end",
    "none", "arg", "now", "answer", "not",
)


def is_whole(thing):
    # Python counts the truths among the whole numbers, the document doesn't.
    return isinstance(thing, int) and not isinstance(thing, bool)


def is_worth(thing):
    return thing is None or (is_whole(thing) and -GREATEST_WORTH <= thing <= GREATEST_WORTH)


def is_moment(thing):
    return is_whole(thing) and 0 <= thing <= GREATEST_MOMENT


def is_small_letter(sign):
    # Not islower: that is also true of letters beyond a to z.
    return "a" <= sign <= "z"


def is_name(thing):
    if not isinstance(thing, str) or not 1 <= len(thing) <= LONGEST_NAME:
        return False
    return thing not in OWN_WORDS and all([is_small_letter(sign) for sign in thing])


def kept(number):
    return max(-GREATEST_WORTH, min(GREATEST_WORTH, number))
