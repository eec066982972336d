"""The grammar of programs as data, and an Earley recognizer over it.

It tells where the first token stands that no program can have there, in
another way than the package does.
"""

import re

KEYWORDS = ('globals kinds keep def if else while risk raise try except finally undo with '
            'swallow return').split()

# A rule is a list of alternatives separated by |; what is no rule is a token.
RULES = '''
PROGRAM: GLOBALS KINDS KEEPS FUNCTIONS
GLOBALS: | globals WORDS
KINDS: | kinds WORDS
WORDS: NAME | WORDS NAME
KEEPS: | KEEPS keep EXPR
FUNCTIONS: | FUNCTIONS def NAME ( PARAMS ) BLOCK
PARAMS: | PARAMLIST
PARAMLIST: PARAM | PARAMLIST , PARAM
PARAM: NAME | & NAME
BLOCK: { STATEMENTS }
STATEMENTS: | STATEMENTS STATEMENT
STATEMENT: NAME = EXPR | NAME = ? | CALL | NAME = CALL | if BLOCK | if BLOCK else BLOCK
STATEMENT: while BLOCK | risk LIST | raise NAME | return EXPR | undo LIST BLOCK
STATEMENT: try BLOCK HANDLERS | try BLOCK HANDLERS finally BLOCK | try BLOCK finally BLOCK
STATEMENT: with CALL , CALL BLOCK | with CALL , CALL swallow LIST BLOCK
LIST: NAME | LIST , NAME
HANDLERS: HANDLER | HANDLERS HANDLER
HANDLER: except LIST BLOCK
CALL: NAME ( ARGS )
ARGS: | ARGLIST
ARGLIST: ARG | ARGLIST , ARG
ARG: EXPR | & NAME
EXPR: TERM | - TERM | EXPR + TERM | EXPR - TERM
TERM: NUMBER | NAME | NUMBER * NAME
'''


def read_rules(text):
    rules = {}
    for line in text.strip().splitlines():
        head, bodies = line.split(':')
        for body in bodies.split('|'):
            rules.setdefault(head, []).append(tuple(body.split()))
    return rules


GRAMMAR = read_rules(RULES)
TOKENS = sorted({symbol for bodies in GRAMMAR.values() for body in bodies for symbol in body}
                - set(GRAMMAR))
PIECE = re.compile(r'[a-z0-9]+|[=+\-*&?(){},]')


def kind_of(piece):
    if piece in KEYWORDS:
        return piece
    if re.fullmatch('[a-z][a-z0-9]*', piece):
        return 'NAME'
    if re.fullmatch('0|[1-9][0-9]*', piece):
        return 'NUMBER'
    return piece


def tokens(text):
    """The pairs (kind, position) of the tokens of a text without wrong signs."""
    return [(kind_of(found.group()), found.start()) for found in PIECE.finditer(text)]


class Column:
    """The items (head, body, dot, start) after some tokens."""

    def __init__(self, earlier, items):
        self.earlier = earlier
        self.items = list(items)
        self.known = set(items)
        self.empty = set()
        for item in self.items:
            self.close(item)

    def add(self, item):
        if item not in self.known:
            self.known.add(item)
            self.items.append(item)

    def close(self, item):
        head, body, dot, start = item
        here = len(self.earlier)
        if dot == len(body):
            if start == here:
                self.empty.add(head)
            origin = self if start == here else self.earlier[start]
            for other in list(origin.items):
                if other[2] < len(other[1]) and other[1][other[2]] == head:
                    self.add((other[0], other[1], other[2] + 1, other[3]))
        elif body[dot] in GRAMMAR:
            for other in GRAMMAR[body[dot]]:
                self.add((body[dot], other, 0, here))
            if body[dot] in self.empty:
                self.add((head, body, dot + 1, start))

    def nexts(self):
        """The kinds of tokens that can come next, None for the end."""
        found = {body[dot] for head, body, dot, start in self.items
                 if dot < len(body) and body[dot] not in GRAMMAR}
        if any(head == 'PROGRAM' and dot == len(body) for head, body, dot, start in self.items):
            found.add(None)
        return found

    def after(self, kind):
        """The column after one more token, which can come next."""
        items = [(head, body, dot + 1, start) for head, body, dot, start in self.items
                 if dot < len(body) and body[dot] == kind]
        return Column(self.earlier + [self], items)


START = Column([], [('PROGRAM', GRAMMAR['PROGRAM'][0], 0, 0)])


def columns(kinds):
    """The columns before each of these tokens of a program, and at its end."""
    found = [START]
    for kind in kinds:
        found.append(found[-1].after(kind))
    return found


def first_wrong(column, rest):
    """How many tokens of the rest can come behind a column, None if it ends a program."""
    for number, kind in enumerate(rest):
        if kind not in column.nexts():
            return number
        column = column.after(kind)
    return None if None in column.nexts() else len(rest)


def error_position(text):
    """The position of InvalidSyntax for a text without large numbers and nesting, or None."""
    found = tokens(text)
    column = START
    expected = 0
    for kind, position in found + [(None, len(text))]:
        gap = text[expected:position]
        wrong = re.search('[^ \n]', gap)
        if wrong:
            return expected + wrong.start()
        if kind not in column.nexts():
            return position
        if kind is not None:
            column = column.after(kind)
            expected = PIECE.match(text, position).end()
    return None
