"""What a run writes to durable cells, as the events of a transaction."""

from allornothing.engine import Memory
from allornothing.events import CLEAR, FLUSH

MOST_UNFLUSHED = 4


class Journal(Memory):
    """The memory of a run, which notes events.

    The names are a dict from the addresses of the durable cells to their names.
    """

    def __init__(self, held, names):
        super().__init__(held)
        self.names = names
        self.noted = []
        self.before = {}
        self.unflushed = 0

    def put(self, address, number):
        if address in self.names:
            self.note_first(self.names[address], self.held[address])
            self.note_write(self.names[address], number)
        super().put(address, number)

    def note_first(self, name, number):
        """Note that the old value of a cell is logged, ahead of the first write of the cell."""
        if name not in self.before:
            self.before[name] = number
            self.noted.append(("log", name, number))
            self.note_flush()

    def note_write(self, name, number):
        if self.unflushed == MOST_UNFLUSHED:
            self.note_flush()
        self.noted.append(("write", name, number))
        self.unflushed += 1

    def note_flush(self):
        self.noted.append(FLUSH)
        self.unflushed = 0

    def note_end(self, is_thrown):
        """Note the end of the run, by a throw or by a return."""
        if not self.before:
            return
        if is_thrown:
            for name, number in list(self.before.items())[::-1]:
                self.note_write(name, number)
        self.noted.extend([FLUSH, CLEAR, FLUSH])
