"""The errors of the package."""


class ProgramError(ValueError):
    """What is wrong with a text, a program or an argument."""


class InvalidText(ProgramError):
    """The value is not a text of the form that is asked for."""

    def __init__(self, value):
        self.value = value


class InvalidSyntax(ProgramError):
    """No program has the token that begins at the position, or ends there."""

    def __init__(self, position):
        self.position = position


class InvalidTree(ProgramError):
    """The value is not a tree of a program."""

    def __init__(self, value):
        self.value = value


class DuplicateName(ProgramError):
    """The name is declared twice."""

    def __init__(self, name):
        self.name = name


class UnknownName(ProgramError):
    """Nothing of the kind that is asked for has the name."""

    def __init__(self, name):
        self.name = name


class WrongArguments(ProgramError):
    """The arguments of the call at the place do not fit its parameters."""

    def __init__(self, place):
        self.place = place


class InvalidFinally(ProgramError):
    """The finally of the try at the place has a statement that may not stand there."""

    def __init__(self, place):
        self.place = place


class TooLarge(ProgramError):
    """There is more than may be of what the word tells."""

    def __init__(self, word):
        self.word = word


class InvalidRow(ProgramError):
    """The value is not a row, or a space, of the width that is asked for."""

    def __init__(self, value):
        self.value = value


class InvalidCase(ProgramError):
    """The value is not a case of the function."""

    def __init__(self, value):
        self.value = value


class InvalidEntry(ProgramError):
    """The value is not an entry of the function."""

    def __init__(self, value):
        self.value = value


class InvalidChoices(ProgramError):
    """The value is not a list of choices."""

    def __init__(self, value):
        self.value = value


class InvalidInjection(ProgramError):
    """The value is not a list of injections, or not an injection."""

    def __init__(self, value):
        self.value = value


class InvalidOrder(ProgramError):
    """The value is not an order of the items."""

    def __init__(self, value):
        self.value = value


class InvalidEvent(ProgramError):
    """The value is not an event of the store, or not a number of events."""

    def __init__(self, value):
        self.value = value


class InvalidValues(ProgramError):
    """The value is not a dict of the values that are asked for."""

    def __init__(self, value):
        self.value = value


class InvalidQuestion(ProgramError):
    """No question has the token that begins at the position, or ends there."""

    def __init__(self, position):
        self.position = position


class InvalidCommand(ProgramError):
    """The word does not begin a command of this form."""

    def __init__(self, word):
        self.word = word


class UnknownFunction(KeyError):
    """There is no function of the name."""

    def __init__(self, name):
        self.name = name


class LimitExceeded(RuntimeError):
    """A run needs more than may be of what the word tells."""

    def __init__(self, word):
        self.word = word
