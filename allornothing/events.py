"""Events of stores, and what they do."""

from allornothing.integers import is_integer
from allornothing.texts import is_name

FLUSH = ("flush",)
CLEAR = ("clear",)


def are_values(value):
    """Tell whether any value is a dict from names to integers."""
    if not isinstance(value, dict):
        return False
    return all([is_name(name) and is_integer(number) for name, number in value.items()])


def is_event(value, values):
    """Tell whether any value is an event of a store with the names of these values."""
    if not isinstance(value, tuple) or len(value) == 0 or not isinstance(value[0], str):
        return False
    if value[0] not in ("log", "write"):
        return value in (FLUSH, CLEAR)
    return len(value) == 3 and isinstance(value[1], str) and value[1] in values and is_integer(value[2])


def behind(values, records, events):
    """Return the values and the log that stand behind some events."""
    held = dict(values)
    kept = list(records)
    for event in events:
        if event[0] == "log":
            kept.append(event[1:])
        elif event[0] == "write":
            held[event[1]] = event[2]
        elif event[0] == "clear":
            kept = []
    return held, kept


def undone_by_log(values, records):
    """Return the values behind a recovery with a log."""
    held = dict(values)
    for name, number in records[::-1]:
        held[name] = number
    return held
