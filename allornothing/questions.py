"""Questions about the throws that leave the functions of a program.

A row is a tuple (function, place, kind, verdict, cells) for such a throw.
"""

from allornothing.errors import InvalidQuestion, InvalidSyntax, InvalidText, TooLarge, UnknownFunction, UnknownName
from allornothing.summaries import Analysis
from allornothing.texts import read_number
from allornothing.tokens import END, NAME, Tokens
from allornothing.verdicts import changed_cells, verdicts

PARTS_OF_ROWS = {"function": 0, "place": 1, "kind": 2, "verdict": 3}
FIELDS = ("function", "place", "kind", "verdict", "changes")
FIRST_WORDS = ("some", "no", "count", "every")
ANSWERS = ("same", "sound", "changed")
MOST_AROUND = 30


class Condition:
    """What may hold for a row."""

    def __init__(self, parts):
        self._parts = parts

    def __call__(self, row):
        """Return whether it holds for a row."""
        parts = self._parts
        if parts[0] == "and":
            return parts[1](row) and parts[2](row)
        if parts[0] == "or":
            return parts[1](row) or parts[2](row)
        if parts[0] == "not":
            return not parts[1](row)
        if parts[0] == "changes":
            return parts[1] in row[4]
        return parts[0] == "any" or row[PARTS_OF_ROWS[parts[0]]] == parts[1]

    def __and__(self, other):
        return Condition(("and", self, other))

    def __or__(self, other):
        return Condition(("or", self, other))

    def __invert__(self):
        return Condition(("not", self))

    def __eq__(self, other):
        return isinstance(other, Condition) and self._parts == other._parts

    def parts(self):
        """Return the word of the condition and what stands behind it."""
        return self._parts


def where(**wanted):
    """Return the condition that all these fields have these values."""
    for word in wanted:
        if word not in FIELDS:
            raise UnknownName(word)
    found = [Condition((word, value)) for word, value in wanted.items()]
    if not found:
        return Condition(("any",))
    joined = found[0]
    for one in found[1:]:
        joined = joined & one
    return joined


def read_condition(text):
    """Return the condition with a text."""
    tokens = question_tokens(text)
    try:
        found = read_or(tokens, 0)
        tokens.take(END)
    except InvalidSyntax as error:
        raise InvalidQuestion(error.position) from None
    return found


def rows_of(program):
    """Return the rows of a program."""
    analysis = Analysis(program)
    return [row for name in program.functions for row in rows_in(analysis, name)]


def selected(program, condition):
    """Yield the rows of a program for which a condition holds."""
    for row in rows_of(program):
        if condition(row):
            yield row


def ask(program, text):
    """Return the answer to a question."""
    tokens = question_tokens(text)
    try:
        word, conditions = read_question(tokens)
    except InvalidSyntax as error:
        raise InvalidQuestion(error.position) from None
    for condition in conditions:
        check_fields(program, condition)
    first, last = conditions[0], conditions[-1]
    rows = list(selected(program, first))
    if word == "count":
        return len(rows)
    if word == "every":
        return all([last(row) for row in rows])
    return (len(rows) > 0) == (word == "some")


def rows_in(analysis, name):
    """Return the rows of a function."""
    found = []
    for (place, kind), verdict in sorted(list(verdicts(analysis, name).items())):
        cells = changed_cells(analysis, name, place, kind)
        found.append((name, place, kind, verdict, tuple(cells)))
    return found


def question_tokens(text):
    if not isinstance(text, str):
        raise InvalidText(text)
    return Tokens(text)


def read_question(tokens):
    """Return the first word of a question and the list of its conditions."""
    word = tokens.take_word(FIRST_WORDS)
    conditions = [read_or(tokens, 0)]
    if word == "every":
        tokens.take_word(("then",))
        conditions.append(read_or(tokens, 0))
    tokens.take(END)
    return word, conditions


def read_or(tokens, around):
    """Read conditions joined by or, inside as many single ones as around tells."""
    found = read_and(tokens, around)
    while tokens.skip_word("or"):
        found = Condition(("or", found, read_and(tokens, around)))
    return found


def read_and(tokens, around):
    found = read_one(tokens, around)
    while tokens.skip_word("and"):
        found = Condition(("and", found, read_one(tokens, around)))
    return found


def read_one(tokens, around):
    """Read a single condition: a field, any, not, or what stands in brackets."""
    if around > MOST_AROUND:
        raise TooLarge("nesting")
    word = tokens.take_word(FIELDS + ("any", "not", "("))
    if word == "not":
        return Condition(("not", read_one(tokens, around + 1)))
    if word == "(":
        found = read_or(tokens, around + 1)
        tokens.take(")")
        return found
    if word == "any":
        return Condition(("any",))
    return Condition((word, read_value(tokens, word)))


def read_value(tokens, word):
    """Read the value of a field."""
    if word == "place":
        return read_number(tokens)
    if word == "verdict":
        return tokens.take_word(ANSWERS)
    return tokens.take(NAME)


def check_fields(program, condition):
    """Raise the first error about a name that there is not, from left to right."""
    parts = condition.parts()
    if parts[0] in ("and", "or", "not"):
        for one in parts[1:]:
            check_fields(program, one)
    elif parts[0] == "function" and parts[1] not in program:
        raise UnknownFunction(parts[1])
    elif parts[0] == "kind" and parts[1] not in program.kinds:
        raise UnknownName(parts[1])
    elif parts[0] == "changes" and parts[1] not in cell_names(program):
        raise UnknownName(parts[1])


def cell_names(program):
    """Return the globals and the parameters by place of all functions."""
    found = list(program.globals)
    for name in program.functions:
        found.extend(program.places(name))
    return found
