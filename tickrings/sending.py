"""The transmit handler of a device."""


class Sender:
    """Moves bytes from the oldest filled slot of a transmit ring into a transmit queue."""

    def __init__(self, queue, ring, pool):
        self.queue = queue
        self.ring = ring
        self.pool = pool
        self.moved = 0

    def can_step(self):
        """Return True if the handler can make a step, otherwise False."""
        return self.ring.oldest() is not None and self.queue.space() > 0

    def step(self):
        """Move the next byte of the oldest filled slot and return it."""
        buffer, data, _ = self.ring.oldest()
        byte = data[self.moved]
        self.queue.put(byte)
        self.moved += 1
        if self.moved == len(data):
            self._empty_slot(buffer)
        return byte

    def waiting(self):
        """Return the list of the bytes in the filled slots that have not been moved."""
        data = []
        for slot in self.ring.filled_slots():
            data.extend(slot[1])
        # What has been moved is the beginning of the oldest slot.
        return data[self.moved:]

    def _empty_slot(self, buffer):
        self.ring.reap()
        self.pool.release(buffer)
        self.moved = 0
