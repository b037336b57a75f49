"""The receive handler of a device."""

from tickrings.marks import is_mark, lost_by


class Receiver:
    """Moves items from a receive queue into the open slot of a receive ring."""

    def __init__(self, queue, ring, size, idle):
        self.queue = queue
        self.ring = ring
        self.size = size
        self.idle = idle
        self.latest = 0

    def can_step(self):
        """Return True if the handler can make a step, otherwise False."""
        return self.queue.first() is not None and self.ring.open_slot() is not None

    def step(self, now):
        """Move the oldest item in the tick `now` and return it."""
        item = self.queue.take()
        if is_mark(item):
            self.ring.close(lost_by(item))
        else:
            self._add(item, now)
        return item

    def close_idle(self, now):
        """Close the open slot and return True if it has been idle, otherwise return False."""
        if self.ring.open_count() == 0 or now - self.latest < self.idle:
            return False
        self.ring.close(0)
        return True

    def _add(self, byte, now):
        self.ring.add(byte)
        self.latest = now
        if self.ring.open_count() == self.size:
            self.ring.close(0)
