"""Programs and how a text writes them."""


def show_program(program):
    return "".join([line + "\n" for line in block_lines(program)])


def block_lines(block):
    lines = []
    for statement in block:
        lines.extend(statement_lines(statement))
    return lines


def statement_lines(statement):
    kind = statement[0]
    if kind == "while":
        return [show_head(statement)] + block_lines(statement[2]) + ["done"]
    if kind == "if":
        return [show_head(statement)] + block_lines(statement[2]) + else_lines(statement[3]) + ["done"]
    return [show_plain(statement)]


def else_lines(block):
    # An else without lines would be read as none of a program.
    return ["else"] + block_lines(block) if block else []


def show_head(statement):
    kind = statement[0]
    saying = show_saying(statement[1])
    return f"{kind} {saying}"


def show_plain(statement):
    kind = statement[0]
    if kind == "send":
        return " ".join([kind, show_saying(statement[1]), statement[2], show_saying(statement[3])])
    if kind == "drop" or kind == "end":
        return " ".join([kind, show_saying(statement[1])])
    return " ".join([statement[1], "="] + given_words(statement))


def given_words(statement):
    kind = statement[0]
    if kind == "set":
        return [show_saying(statement[2])]
    if kind == "timer":
        return [kind, show_saying(statement[2])]
    if kind == "wait":
        return [kind] + [show_saying(saying) for saying in statement[2]]
    if kind == "hear":
        return [kind, statement[2]]
    return [kind, statement[2], show_saying(statement[3])]


def show_saying(saying):
    kind = saying[0]
    if kind == "number":
        return str(saying[1])
    if kind == "name":
        return saying[1]
    if kind in ("none", "arg", "now"):
        return kind
    one = show_saying(saying[1])
    if kind in ("answer", "not"):
        return f"{kind} {one}"
    other = show_saying(saying[2])
    return f"( {one} {kind} {other} )"
