"""A console that keeps programs and answers commands."""

from allornothing.changes import changes
from allornothing.errors import InvalidCommand, InvalidText
from allornothing.logs import fewest
from allornothing.machine import Machine
from allornothing.orders import cheapest
from allornothing.printing import show
from allornothing.programs import Program
from allornothing.questions import ask, rows_in
from allornothing.summaries import Analysis
from allornothing.texts import MOST_DIGITS, parse
from allornothing.tokens import is_number

NOTHING = "-"


class Console:
    """Keeps programs, of which the last one is the present one."""

    def __init__(self):
        self._kept = [Program(((), (), (), ()))]

    def execute(self, command):
        """Carry out a command and return its answer."""
        words = words_of(command)
        if words[0] not in FORMS:
            raise InvalidCommand(words[0])
        fewest_words, most_words = FORMS[words[0]]
        if len(words) < fewest_words or most_words is not None and len(words) > most_words:
            raise InvalidCommand(words[0])
        if words[0] == "program":
            return self._take(Program.read(rest_of(words)))
        if words[0] == "define":
            return self._define("def " + rest_of(words))
        if words[0] == "back":
            return self._back()
        answer = ANSWERS[words[0]]
        return answer(self._kept[-1], words)

    def _take(self, program):
        self._kept.append(program)
        return "ok"

    def _define(self, text):
        old = self._kept[-1]
        new = old
        for function in parse(text)[3]:
            new = new.replaced(function)
        lines = lines_of([" ".join(told) for told in changes(old, new)])
        self._take(new)
        return lines

    def _back(self):
        if len(self._kept) == 1:
            return "no"
        self._kept.pop()
        return "ok"


def words_of(command):
    """Return the words of a command."""
    if not isinstance(command, str) or "\n" in command or "" in command.split(" "):
        raise InvalidCommand(None)
    return command.split(" ")


def rest_of(words):
    return " ".join(words[1:])


def lines_of(lines):
    return "\n".join(lines) if lines else NOTHING


def line_of(values):
    """Return the line of some names or numbers."""
    return " ".join([str(value) for value in values]) if values else NOTHING


def answer_show(program, words):
    text = show(program.tree())
    return NOTHING if text == "" else text[:-1]


def answer_ask(program, words):
    answer = ask(program, rest_of(words))
    if answer is True:
        return "yes"
    return "no" if answer is False else str(answer)


def answer_verdicts(program, words):
    rows = rows_in(Analysis(program), words[1])
    return lines_of([" ".join([str(place), kind, verdict, line_of(cells)]) for _, place, kind, verdict, cells in rows])


def answer_logs(program, words):
    return line_of(fewest(program, words[1]))


def answer_order(program, words):
    cells, order = cheapest(program, words[1])
    return lines_of([line_of(cells), line_of(order)])


def answer_run(program, words):
    name = words[1]
    # This raises UnknownFunction before the numbers are read.
    case = tuple(program.places(name))
    entry = numbers_in(words[2])
    choices = numbers_in(words[3])
    kind, place, cells, result, _ = Machine(program)(name, case, tuple(entry), choices)
    first = "returns " + str(result) if kind is None else "throws " + kind + " " + str(place)
    return lines_of([first, line_of(cells)])


def numbers_in(word):
    """Return the list of the integers of a word."""
    if word == NOTHING:
        return []
    pieces = word.split(",")
    for piece in pieces:
        if not is_written(piece):
            raise InvalidText(word)
    return [int(piece) for piece in pieces]


def is_written(piece):
    """Tell whether a piece is an integer of at most twelve digits, without leading zeros."""
    digits = piece[1:] if piece.startswith("-") else piece
    if digits == "" or len(digits) > MOST_DIGITS or not is_number(digits):
        return False
    return piece != "-0"


# The fewest and the most words of each command.
FORMS = {
    "program": (2, None),
    "define": (2, None),
    "back": (1, 1),
    "show": (1, 1),
    "ask": (2, None),
    "verdicts": (2, 2),
    "logs": (2, 2),
    "order": (2, 2),
    "run": (4, 4),
}
ANSWERS = {
    "show": answer_show,
    "ask": answer_ask,
    "verdicts": answer_verdicts,
    "logs": answer_logs,
    "order": answer_order,
    "run": answer_run,
}
