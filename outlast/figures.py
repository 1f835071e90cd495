"""Numbers as texts write them: by their figures, in one way alone."""


def is_number_word(word, least, greatest):
    figures = word[1:] if word.startswith("-") else word
    # The length goes first: Python itself refuses to read numbers of very many figures.
    if not 1 <= len(figures) <= len(str(max(-least, greatest))):
        return False
    if not all([is_figure(sign) for sign in figures]) or (figures[0] == "0" and word != "0"):
        return False
    return least <= int(word) <= greatest


def is_figure(sign):
    # Not isdigit: that is also true of signs beyond 0 to 9.
    return "0" <= sign <= "9"
