"""Choices of some of several things."""


def subsets(many):
    """Return all choices of the numbers below this one, as ascending tuples: those of few first, then in order."""
    found = [()]
    for number in range(many):
        found = found + [chosen + (number,) for chosen in found]
    return sorted(found, key=lambda one: (len(one), one))
