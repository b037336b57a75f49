"""A ring of cells that holds values in the order in which they were put."""

from tickrings.errors import RingError


class Ring:
    """A ring with a fixed number of cells."""

    def __init__(self, cells):
        self._cells = [None] * cells
        # Both counters go round at twice the number of cells: at once the
        # number of cells, a full ring would look like an empty one.
        self.written = 0
        self.taken = 0

    def held(self):
        """Return the number of values."""
        many = self.written - self.taken
        if many < 0:
            return many + 2 * len(self._cells)
        return many

    def is_full(self):
        """Return True if all cells hold values, otherwise False."""
        return self.held() == len(self._cells)

    def put(self, value):
        """Put a value behind the newest one."""
        if self.is_full():
            raise RingError(len(self._cells))
        self._cells[self.written % len(self._cells)] = value
        self.written = self._next(self.written)

    def first(self):
        """Return the oldest value."""
        if self.held() == 0:
            raise RingError(0)
        return self._cells[self.taken % len(self._cells)]

    def take(self):
        """Remove the oldest value and return it."""
        value = self.first()
        self.taken = self._next(self.taken)
        return value

    def listed(self):
        """Return the list of the values from the oldest to the newest."""
        cells = len(self._cells)
        return [self._cells[(self.taken + at) % cells] for at in range(self.held())]

    def _next(self, counter):
        return (counter + 1) % (2 * len(self._cells))
