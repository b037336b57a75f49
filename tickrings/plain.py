"""A device as plain lists, for the judge: what may happen to them, and what does."""

from tickrings.marks import bytes_among, is_mark, joined, lost_by, lost_mark, with_mark


class PlainDevice:
    """The queues, rings and streams of a device. Each list has its oldest part first."""

    def __init__(self, settings, size):
        self.settings = settings
        self.size = size
        # The receive queue: its items, and the tick of each of them.
        self.queue = []
        self.ticks = []
        # The receive ring: the buffers of the armed slots, the bytes in the open one and the
        # tick of the latest of them, and (buffer, bytes, lost) of each filled slot.
        self.armed = []
        self.added = []
        self.latest = 0
        self.filled = []
        # The transmit ring: (buffer, bytes that have not been moved) of each filled slot.
        self.staged = []
        self.outgoing = []
        self.reading = []
        self.writing = []

    def queue_is_full(self):
        """Return True if a byte that arrives is lost."""
        return bytes_among(self.queue) >= self.settings.queue

    def arrive(self, byte, tick):
        """Put a byte into the receive queue."""
        self.queue.append(byte)
        self.ticks.append(tick)

    def lose(self, tick):
        """Record in the receive queue that a byte is lost."""
        if self.queue and is_mark(self.queue[-1]):
            self.queue[-1] = joined(self.queue[-1], lost_mark(1))
        else:
            self.queue.append(lost_mark(1))
            self.ticks.append(tick)

    def read_gives(self, many):
        """Return True if a read of some number of bytes gives so many of the items that are there."""
        # A read ends with its last byte, or because nothing more is there.
        return many == 0 or many == len(self.reading) or not is_mark(self.reading[many - 1])

    def read(self, many):
        """Remove so many items from the read stream."""
        self.reading = self.reading[many:]

    def write_fits(self, data):
        """Return True if bytes fit into the write stream."""
        return len(self.writing) + len(data) <= self.settings.room

    def write(self, data):
        """Put bytes into the write stream."""
        self.writing = self.writing + data

    def close_idle(self, tick):
        """Close the open slot and return True if it has been idle, otherwise return False."""
        if not self.added or tick - self.latest < self.settings.idle:
            return False
        self._close(0)
        return True

    def wakes(self, tick):
        """Return True if the receive queue makes its line pending."""
        if bytes_among(self.queue) >= self.settings.count_limit:
            return True
        return len(self.queue) > 0 and tick - self.ticks[0] >= self.settings.wait

    def can_receive(self):
        """Return True if the receive handler can make a step."""
        return len(self.queue) > 0 and len(self.armed) > 0

    def receive_step(self, tick):
        """Make a step of the receive handler and return the item that it moves."""
        self.ticks.pop(0)
        item = self.queue.pop(0)
        if is_mark(item):
            self._close(lost_by(item))
            return item
        self.added.append(item)
        self.latest = tick
        if len(self.added) == self.size:
            self._close(0)
        return item

    def can_transmit(self):
        """Return True if the transmit handler can make a step."""
        return len(self.staged) > 0 and len(self.outgoing) < self.settings.sending

    def transmit_step(self):
        """Make a step of the transmit handler; return its byte, and its buffer if it is free now, or None."""
        buffer, data = self.staged.pop(0)
        self.outgoing.append(data[0])
        if len(data) == 1:
            return (data[0], buffer)
        self.staged.insert(0, (buffer, data[1:]))
        return (data[0], None)

    def can_deliver(self):
        """Return True if the oldest filled slot fits into the read stream."""
        if not self.filled:
            return False
        return bytes_among(self.reading) + len(self.filled[0][1]) <= self.settings.room

    def deliver(self):
        """Move the oldest filled slot to the read stream; return (buffer, bytes, lost) of it."""
        slot = self.filled.pop(0)
        items = with_mark(slot[1], slot[2])
        # Only the first of these items can be a mark that meets one.
        if self.reading and is_mark(self.reading[-1]) and is_mark(items[0]):
            items[0] = joined(self.reading.pop(), items[0])
        self.reading = self.reading + items
        return slot

    def receive_buffers(self):
        """Return the number of the buffers of the receive ring."""
        return len(self.armed) + len(self.filled)

    def transmit_buffers(self):
        """Return the number of the buffers of the transmit ring."""
        return len(self.staged)

    def arm(self, buffer):
        """Arm a slot of the receive ring."""
        self.armed.append(buffer)

    def stage(self, buffer):
        """Fill a slot of the transmit ring from the write stream; return the number of its bytes."""
        data = self.writing[:self.size]
        self.writing = self.writing[self.size:]
        self.staged.append((buffer, data))
        return len(data)

    def _close(self, lost):
        self.filled.append((self.armed.pop(0), self.added, lost))
        self.added = []
