"""Stores whose durable values are recovered after crashes."""

from allornothing.engine import Run
from allornothing.errors import InvalidEntry, InvalidEvent, InvalidValues, UnknownName
from allornothing.events import are_values, behind, is_event, undone_by_log
from allornothing.integers import is_integer
from allornothing.journals import Journal
from allornothing.machine import check_run, outcome_of
from allornothing.nodes import bodies_of
from allornothing.supplies import Supply


class Store:
    """Durable values, a durable log, and the events behind them that are not durable yet."""

    def __init__(self, values):
        if not are_values(values):
            raise InvalidValues(values)
        self._values = dict(values)
        self._records = []
        self._ahead = []

    def perform(self, event):
        """Perform an event."""
        if not is_event(event, self._values):
            raise InvalidEvent(event)
        self._ahead.append(event)
        if event[0] == "flush":
            self._values, self._records = behind(self._values, self._records, self._ahead)
            self._ahead = []

    def current(self):
        """Return the dict of the values after all events."""
        values, _ = behind(self._values, self._records, self._ahead)
        return values

    def log(self):
        """Return the records (name, value) of the log after all events."""
        _, records = behind(self._values, self._records, self._ahead)
        return records

    @property
    def pending(self):
        return len(self._ahead)

    def crashes(self):
        """Yield what the store is after each crash that there can be now."""
        for choice in range(1 << len(self._ahead)):
            kept = [event for at, event in enumerate(self._ahead) if (choice >> at) & 1 == 1]
            values, records = behind(self._values, self._records, kept)
            yield store_at(values, records)

    def recovered(self):
        """Return the store after a recovery."""
        return store_at(undone_by_log(self.current(), self.log()), [])


def store_at(values, records):
    """Return a store with these values and this log, all of it durable."""
    store = Store(values)
    store._records = records
    return store


def is_safe(values, events):
    """Return whether crashes behind any number of events are recovered to the values, or to those at the end."""
    store = Store(values)
    if not isinstance(events, list) or not all([is_event(event, values) for event in events]):
        return False
    last, _ = behind(values, [], events)
    for event in events:
        store.perform(event)
        found = [crash.recovered().current() for crash in store.crashes()]
        if not all([held == values or held == last for held in found]):
            return False
    return True


def transaction(program, name, case, entry, choices, durable):
    """Return the events of a run whose durable cells are kept in a store, and what the machine returns."""
    check_run(program, name, case, entry, choices)
    cells = program.cells(name, case)
    check_durable(durable, cells)
    journal = Journal(list(entry), {address: cell for address, cell in enumerate(cells) if cell in durable})
    run = Run(bodies_of(program), program.globals, Supply(choices), {}, journal)
    outcome = outcome_of(run, name, case, cells)
    journal.note_end(outcome[0] is not None)
    return journal.noted, outcome


def check_durable(durable, cells):
    if not isinstance(durable, tuple):
        raise UnknownName(durable)
    for value in durable:
        if not isinstance(value, str) or value not in cells:
            raise UnknownName(value)


class Database:
    """The globals of a program, kept in a store."""

    def __init__(self, program, values):
        if not are_values(values) or sorted(values) != sorted(program.globals):
            raise InvalidValues(values)
        self._program = program
        self._values = dict(values)
        self._store = Store(values)
        self._events = []

    def perform(self, name, case, rest, choices):
        """Perform the transaction of a run from the current values; return (kind, place, result)."""
        program = self._program
        program.cells(name, case)
        if not isinstance(rest, tuple):
            raise InvalidEntry(rest)
        held = self._store.current()
        entry = tuple([held[variable] for variable in program.globals]) + rest
        events, outcome = transaction(program, name, case, entry, choices, program.globals)
        for event in events:
            self._store.perform(event)
        self._events.extend(events)
        kind, place, _, result, _ = outcome
        return kind, place, result

    def current(self):
        """Return the dict of the values."""
        return self._store.current()

    def events(self):
        """Return all events so far."""
        return list(self._events)

    def crashed(self, number):
        """Yield the dicts of the values recovered after each crash behind so many events."""
        if not is_integer(number) or number < 0 or number > len(self._events):
            raise InvalidEvent(number)
        store = Store(self._values)
        for event in self._events[:number]:
            store.perform(event)
        for crash in store.crashes():
            yield crash.recovered().current()
