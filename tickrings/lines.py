"""The lines of the devices, which ask for steps of the handlers."""


def wakes(held, oldest, now, count, wait):
    """Return True if a receive queue makes its line pending, otherwise False.

    `held` is the number of bytes in the queue, `oldest` the tick of its oldest item or None.
    """
    if held >= count:
        return True
    return oldest is not None and now - oldest >= wait


class Lines:
    """Lines that are pending or not, and masked or not."""

    def __init__(self, many):
        self._pending = [False] * many
        self._masked = [False] * many

    def raise_line(self, line):
        """Make a line pending."""
        self._pending[line] = True

    def clear_line(self, line):
        """Make a line not pending."""
        self._pending[line] = False

    def mask(self, line):
        """Make a line masked."""
        self._masked[line] = True

    def unmask(self, line):
        """Make a line not masked."""
        self._masked[line] = False

    def is_pending(self, line):
        """Return True if a line is pending, otherwise False."""
        return self._pending[line]

    def is_masked(self, line):
        """Return True if a line is masked, otherwise False."""
        return self._masked[line]

    def candidates(self):
        """Return the ascending list of the lines that are pending and not masked."""
        return [line for line, pending in enumerate(self._pending) if pending and not self._masked[line]]
