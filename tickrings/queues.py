"""The two queues of a device."""

from tickrings.marks import bytes_among, is_mark, joined, lost_mark
from tickrings.rings import Ring


class ReceiveQueue:
    """The items that have arrived, each with the tick at which it came."""

    def __init__(self, capacity):
        self.capacity = capacity
        # The two lists go together: each item has its tick at the same place.
        self._items = []
        self._ticks = []

    def arrive(self, byte, tick):
        """Take an arriving byte; return True if it is now in the queue, False if it is lost."""
        if self.bytes_held() >= self.capacity:
            self._lose(tick)
            return False
        self._append(byte, tick)
        return True

    def first(self):
        """Return the oldest item, or None."""
        if not self._items:
            return None
        return self._items[0]

    def take(self):
        """Remove the oldest item and return it; return None if there is none."""
        if not self._items:
            return None
        self._ticks.pop(0)
        return self._items.pop(0)

    def oldest_tick(self):
        """Return the tick of the oldest item, or None."""
        if not self._ticks:
            return None
        return self._ticks[0]

    def bytes_held(self):
        """Return the number of bytes in the queue."""
        return bytes_among(self._items)

    def contents(self):
        """Return the list of the items, the oldest one first."""
        return list(self._items)

    def _append(self, item, tick):
        self._items.append(item)
        self._ticks.append(tick)

    def _lose(self, tick):
        # A mark that grows keeps the tick of its first lost byte.
        if self._items and is_mark(self._items[-1]):
            self._items[-1] = joined(self._items[-1], lost_mark(1))
        else:
            self._append(lost_mark(1), tick)


class TransmitQueue:
    """The bytes that wait until the device can send them."""

    def __init__(self, capacity):
        self.capacity = capacity
        self._bytes = Ring(capacity)

    def put(self, byte):
        """Append a byte and return True; return False, without a change, if the queue is full."""
        if self._bytes.is_full():
            return False
        self._bytes.put(byte)
        return True

    def take(self):
        """Remove the oldest byte and return it; return None if there is none."""
        if self._bytes.held() == 0:
            return None
        return self._bytes.take()

    def space(self):
        """Return how many more bytes fit."""
        return self.capacity - self._bytes.held()

    def contents(self):
        """Return the list of the bytes, the oldest one first."""
        return self._bytes.listed()
