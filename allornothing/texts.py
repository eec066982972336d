"""Texts of programs, read into trees.

Each function reads what it is named after from the tokens that come next. It
takes a token only where the grammar has it, so the first one that is refused
is the first one that no program can have there.
"""

from allornothing.errors import InvalidSyntax, InvalidText, TooLarge
from allornothing.tokens import END, KEYWORDS, NAME, NUMBER, Tokens, is_word

MOST_DIGITS = 12
MOST_NESTED = 30


def is_name(value):
    """Tell whether a value is a word that is no keyword."""
    return isinstance(value, str) and is_word(value) and value not in KEYWORDS


def parse(text):
    """Return the tree of the text of a program."""
    if not isinstance(text, str):
        raise InvalidText(text)
    tokens = Tokens(text)
    variables = read_declared(tokens, "globals")
    kinds = read_declared(tokens, "kinds")
    keeps = []
    while tokens.skip("keep"):
        keeps.append(read_expression(tokens))
    functions = []
    while tokens.skip("def"):
        functions.append(read_function(tokens))
    tokens.take(END)
    return variables, kinds, tuple(keeps), tuple(functions)


def read_declared(tokens, keyword):
    """Read a keyword and its names, or nothing if another token comes next."""
    if not tokens.skip(keyword):
        return ()
    names = [tokens.take(NAME)]
    while tokens.kind_ahead() == NAME:
        names.append(tokens.take(NAME))
    return tuple(names)


def read_function(tokens):
    """Read a function behind its def."""
    name = tokens.take(NAME)
    params = read_listed(tokens, read_param)
    return name, params, read_block(tokens, 0)


def read_param(tokens):
    by_place = tokens.skip("&")
    return tokens.take(NAME), by_place


def read_listed(tokens, read_one):
    """Read a list in parentheses, which may be empty."""
    tokens.take("(")
    if tokens.skip(")"):
        return ()
    found = [read_one(tokens)]
    while tokens.skip(","):
        found.append(read_one(tokens))
    tokens.take(")")
    return tuple(found)


def read_names(tokens):
    names = [tokens.take(NAME)]
    while tokens.skip(","):
        names.append(tokens.take(NAME))
    return tuple(names)


def read_block(tokens, depth):
    """Read a block that stands inside as many others as depth tells."""
    tokens.take("{")
    if depth == MOST_NESTED:
        raise TooLarge("nesting")
    found = []
    while not tokens.skip("}"):
        found.append(read_statement(tokens, depth + 1))
    return tuple(found)


def read_statement(tokens, depth):
    word = tokens.kind_ahead()
    if word == NAME:
        return read_named(tokens)
    if word in PLAIN:
        tokens.take(word)
        read_plain = PLAIN[word]
        return read_plain(tokens)
    if word in NESTING:
        tokens.take(word)
        read_nesting = NESTING[word]
        return read_nesting(tokens, depth)
    raise InvalidSyntax(tokens.here())


def read_named(tokens):
    """Read one of the statements that begin with a name."""
    if tokens.kind_ahead(1) == "(":
        return read_call_to(tokens, None)
    target = tokens.take(NAME)
    tokens.take("=")
    if tokens.skip("?"):
        return "input", target
    if tokens.kind_ahead() == NAME and tokens.kind_ahead(1) == "(":
        return read_call_to(tokens, target)
    return "set", target, read_expression(tokens)


def read_call_to(tokens, target):
    name, args = read_call(tokens)
    return "call", target, name, args


def read_call(tokens):
    name = tokens.take(NAME)
    return name, read_listed(tokens, read_arg)


def read_arg(tokens):
    if tokens.skip("&"):
        return "place", tokens.take(NAME)
    return "value", read_expression(tokens)


def read_risk(tokens):
    return "risk", read_names(tokens)


def read_raise(tokens):
    return "raise", tokens.take(NAME)


def read_return(tokens):
    return "return", read_expression(tokens)


def read_if(tokens, depth):
    first = read_block(tokens, depth)
    second = read_block(tokens, depth) if tokens.skip("else") else ()
    return "if", first, second


def read_while(tokens, depth):
    return "while", read_block(tokens, depth)


def read_undo(tokens, depth):
    names = read_names(tokens)
    return "undo", names, read_block(tokens, depth)


def read_try(tokens, depth):
    block = read_block(tokens, depth)
    handlers = []
    while tokens.skip("except"):
        handlers.append(read_handler(tokens, depth))
    last = ()
    # Without a handler there must be a finally.
    if not handlers or tokens.kind_ahead() == "finally":
        tokens.take("finally")
        last = read_block(tokens, depth)
    return "try", block, tuple(handlers), last


def read_handler(tokens, depth):
    kinds = read_names(tokens)
    return kinds, read_block(tokens, depth)


def read_with(tokens, depth):
    enter = read_call(tokens)
    tokens.take(",")
    leave = read_call(tokens)
    kinds = read_names(tokens) if tokens.skip("swallow") else ()
    return "with", enter, leave, kinds, read_block(tokens, depth)


PLAIN = {"risk": read_risk, "raise": read_raise, "return": read_return}
NESTING = {"if": read_if, "while": read_while, "undo": read_undo, "try": read_try, "with": read_with}


def read_expression(tokens):
    """Read an expression; the factors of equal variables are added up."""
    constant = 0
    factors = {}
    sign = -1 if tokens.skip("-") else 1
    while sign != 0:
        name, number = read_term(tokens)
        if name is None:
            constant += sign * number
        else:
            factors[name] = factors.get(name, 0) + sign * number
        sign = read_sign(tokens)
    terms = [(name, factors[name]) for name in sorted(factors) if factors[name] != 0]
    return constant, tuple(terms)


def read_sign(tokens):
    """Read the sign before a further term; return 0 if none comes next."""
    if tokens.skip("+"):
        return 1
    return -1 if tokens.skip("-") else 0


def read_term(tokens):
    """Read a term: its variable, or None, and its number."""
    if tokens.kind_ahead() == NAME:
        return tokens.take(NAME), 1
    number = read_number(tokens)
    if tokens.skip("*"):
        return tokens.take(NAME), number
    return None, number


def read_number(tokens):
    digits = tokens.take(NUMBER)
    if len(digits) > MOST_DIGITS:
        raise TooLarge("numbers")
    return int(digits)
