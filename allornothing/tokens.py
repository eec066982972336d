"""The tokens of texts."""

from allornothing.errors import InvalidSyntax

LETTERS = "abcdefghijklmnopqrstuvwxyz"
DIGITS = "0123456789"
SIGNS = ("=", "+", "-", "*", "&", "?", "(", ")", "{", "}", ",")
BLANKS = " \n"
KEYWORDS = (
    "globals", "kinds", "keep", "def", "if", "else", "while", "risk", "raise", "try", "except",
    "finally", "undo", "with", "swallow", "return",
)

# The kind of a keyword or a sign is the token itself; these are written in
# capitals, so that no token is spelled like them.
NAME = "NAME"
NUMBER = "NUMBER"
WRONG = "WRONG"
END = "END"


def is_word(text):
    """Tell whether a text is a word, keywords included."""
    if text == "" or text[0] not in LETTERS:
        return False
    return all([sign in LETTERS or sign in DIGITS for sign in text])


def is_number(piece):
    """Tell whether a piece of a text is a number without leading zeros."""
    if piece[0] == "0":
        return piece == "0"
    return all([sign in DIGITS for sign in piece])


def kind_of(piece):
    """Return the kind of a piece of a text, WRONG if it is no token."""
    if is_word(piece):
        return piece if piece in KEYWORDS else NAME
    if is_number(piece):
        return NUMBER
    if piece in SIGNS:
        return piece
    return WRONG


def run_end(text, start):
    """Return where the run of letters and digits ends, or the one other character."""
    at = start
    while at < len(text) and (text[at] in LETTERS or text[at] in DIGITS):
        at += 1
    return max(at, start + 1)


def tokens_of(text):
    """Return the list of the tokens (kind, piece, position), with END as the last one."""
    found = []
    at = 0
    while at < len(text):
        if text[at] in BLANKS:
            at += 1
        else:
            end = run_end(text, at)
            found.append((kind_of(text[at:end]), text[at:end], at))
            at = end
    found.append((END, "", len(text)))
    return found


class Tokens:
    """The tokens of a text, taken one after the other."""

    def __init__(self, text):
        self.found = tokens_of(text)
        self.taken = 0

    def kind_ahead(self, further=0):
        """Return the kind of the next token, or of one further on."""
        return self.found[self.taken + further][0]

    def here(self):
        """Return the position of the next token."""
        return self.found[self.taken][2]

    def take(self, kind):
        """Take the next token, which must be of this kind, and return its text."""
        if self.kind_ahead() != kind:
            raise InvalidSyntax(self.here())
        self.taken += 1
        return self.found[self.taken - 1][1]

    def skip(self, kind):
        """Take the next token if it is of this kind; return whether it is."""
        if self.kind_ahead() != kind:
            return False
        self.taken += 1
        return True

    def word_ahead(self):
        """Return the text of the next token, empty at the end."""
        return self.found[self.taken][1]

    def skip_word(self, word):
        """Take the next token if this is its text; return whether it is."""
        if self.word_ahead() != word:
            return False
        self.taken += 1
        return True

    def take_word(self, words):
        """Take the next token, which must be one of these words, and return it."""
        word = self.word_ahead()
        if word not in words:
            raise InvalidSyntax(self.here())
        self.taken += 1
        return word
