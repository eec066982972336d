"""Where runs take their choices from."""


class TooManyChoices(Exception):
    """A run that is looked for would take more choices than it may."""


class Supply:
    """Choices that are given, and then zeros."""

    def __init__(self, choices):
        self.choices = choices
        self.used = 0
        self.replay = []

    def take(self):
        """Take the next choice as it is."""
        choice = self.choices[self.used] if self.used < len(self.choices) else 0
        self.used += 1
        self.replay.append(choice)
        return choice

    def take_way(self, ways):
        """Take the next choice, which is one of so many ways."""
        return self.take() % ways

    def take_number(self):
        """Take the next choice, which is assigned."""
        return self.take()

    def pass_over(self, choice):
        """Note a choice that is not taken, but would lead to the same."""
        self.replay.append(choice)


class Search:
    """All choices that runs can take, one list after the other in ascending order.

    An option is a way, or the index of a number among the inputs.
    """

    def __init__(self, most, inputs):
        self.most = most
        self.inputs = inputs
        self.options = []
        self.ways = []
        self.used = 0
        self.choices = []

    def take_way(self, ways):
        option = self.take_option(ways)
        self.choices.append(option)
        return option

    def take_number(self):
        number = self.inputs[self.take_option(len(self.inputs))]
        self.choices.append(number)
        return number

    def take_option(self, ways):
        """Take the option to be tried here, which is the first one at a new choice."""
        if self.used == self.most:
            raise TooManyChoices("of a run that is looked for")
        if self.used == len(self.options):
            self.options.append(0)
            self.ways.append(ways)
        self.used += 1
        return self.options[self.used - 1]

    def pass_over(self, choice):
        """A choice that is not taken is not told."""

    def advance(self):
        """Go on to the next options for a run; return whether there are some."""
        while self.options and self.options[-1] + 1 == self.ways[-1]:
            self.options.pop()
            self.ways.pop()
        if not self.options:
            return False
        self.options[-1] += 1
        self.used = 0
        self.choices = []
        return True
