"""What counts as an integer: no bool does."""


def is_integer(value):
    """Tell whether any value is an integer."""
    return isinstance(value, int) and not isinstance(value, bool)


def are_integers(values):
    """Tell whether all values of a list or a tuple are integers."""
    return all([is_integer(value) for value in values])
