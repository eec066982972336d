"""Trees of programs, written as texts."""

INDENT = "  "


def show(tree):
    """Return the text of a tree."""
    variables, kinds, keeps, functions = tree
    lines = []
    if variables:
        lines.append("globals " + " ".join(variables))
    if kinds:
        lines.append("kinds " + " ".join(kinds))
    for keep in keeps:
        lines.append("keep " + shown_sum(keep))
    for name, params, block in functions:
        lines.extend(block_lines([("def " + name + shown_params(params), block)], ""))
    return "".join([line + "\n" for line in lines])


def shown_params(params):
    words = ["&" + name if by_place else name for name, by_place in params]
    return "(" + ", ".join(words) + ")"


def block_lines(parts, indent):
    """Return the lines of the pairs (head, block) of one statement."""
    lines = []
    before = indent
    for head, block in parts:
        lines.append(before + head + " {")
        for statement in block:
            lines.extend(statement_lines(statement, indent + INDENT))
        before = indent + "} "
    lines.append(indent + "}")
    return lines


def statement_lines(statement, indent):
    parts = block_parts(statement)
    if parts:
        return block_lines(parts, indent)
    return [indent + shown_plain(statement)]


def block_parts(statement):
    """Return the pairs (head, block) of a statement, none if it has no blocks."""
    word = statement[0]
    if word == "if":
        return if_parts(statement)
    if word == "while":
        return [("while", statement[1])]
    if word == "try":
        return try_parts(statement)
    if word == "undo":
        return [("undo " + ", ".join(statement[1]), statement[2])]
    if word == "with":
        return [(shown_with(statement), statement[4])]
    return []


def if_parts(statement):
    parts = [("if", statement[1])]
    if statement[2]:
        parts.append(("else", statement[2]))
    return parts


def try_parts(statement):
    block, handlers, last = statement[1:]
    parts = [("try", block)]
    for kinds, handled in handlers:
        parts.append(("except " + ", ".join(kinds), handled))
    if last or not handlers:
        parts.append(("finally", last))
    return parts


def shown_with(statement):
    enter, leave, kinds = statement[1:4]
    head = "with " + shown_call(enter) + ", " + shown_call(leave)
    if kinds:
        head = head + " swallow " + ", ".join(kinds)
    return head


def shown_plain(statement):
    """Return the line of a statement without blocks."""
    word = statement[0]
    if word == "set":
        return statement[1] + " = " + shown_sum(statement[2])
    if word == "input":
        return statement[1] + " = ?"
    if word == "risk":
        return "risk " + ", ".join(statement[1])
    if word == "raise":
        return "raise " + statement[1]
    if word == "return":
        return "return " + shown_sum(statement[1])
    target, name, args = statement[1:]
    call = shown_call((name, args))
    return call if target is None else target + " = " + call


def shown_call(call):
    name, args = call
    return name + "(" + ", ".join([shown_arg(arg) for arg in args]) + ")"


def shown_arg(arg):
    word, held = arg
    return "&" + held if word == "place" else shown_sum(held)


def shown_sum(expression):
    """Return the text of an expression."""
    constant, terms = expression
    parts = [(factor, shown_term(name, factor)) for name, factor in terms]
    if constant != 0 or not terms:
        parts.append((constant, str(abs(constant))))
    text = ""
    for number, shown in parts:
        if text == "":
            text = "-" + shown if number < 0 else shown
        else:
            text = text + (" - " if number < 0 else " + ") + shown
    return text


def shown_term(name, factor):
    """Return a term without its sign."""
    if abs(factor) == 1:
        return name
    return str(abs(factor)) + "*" + name
