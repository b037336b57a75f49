"""A ring of slots, which are armed with buffers, filled with bytes, and emptied."""

from tickrings.errors import RingError
from tickrings.rings import Ring


def _copied(slot):
    buffer, data, lost = slot
    return (buffer, list(data), lost)


class SlotRing:
    """A ring with a fixed number of slots, each of them empty, armed or filled."""

    def __init__(self, slots):
        self._slots = slots
        # Slots are armed, filled and emptied in one order, so two rings hold
        # them: the buffers of the armed slots, and (buffer, bytes, lost) of
        # each filled one. All other slots are empty.
        self._armed = Ring(slots)
        self._filled = Ring(slots)
        self._added = []

    def can_arm(self):
        """Return True if a slot is empty, otherwise False."""
        return self._armed.held() + self._filled.held() < self._slots

    def arm(self, buffer):
        """Arm the next empty slot and return True; return False, without a change, if there is none."""
        if not self.can_arm():
            return False
        self._armed.put(buffer)
        return True

    def open_slot(self):
        """Return the buffer of the open slot, or None."""
        if self._armed.held() == 0:
            return None
        return self._armed.first()

    def open_bytes(self):
        """Return the list of the bytes in the open slot."""
        return list(self._added)

    def open_count(self):
        """Return the number of the bytes in the open slot."""
        return len(self._added)

    def add(self, byte):
        """Add a byte to the open slot."""
        if self._armed.held() == 0:
            raise RingError(0)
        self._added.append(byte)

    def close(self, lost):
        """Make the open slot a filled one with a number of lost bytes."""
        # Without an armed slot, this raises the error before anything changes.
        buffer = self._armed.take()
        self._filled.put((buffer, self._added, lost))
        self._added = []

    def oldest(self):
        """Return the tuple (buffer, bytes, lost) of the oldest filled slot, or None."""
        if self._filled.held() == 0:
            return None
        return _copied(self._filled.first())

    def reap(self):
        """Make the oldest filled slot empty and return its tuple."""
        return _copied(self._filled.take())

    def filled_slots(self):
        """Return the list of the tuples of the filled slots from the oldest on."""
        return [_copied(slot) for slot in self._filled.listed()]

    def buffers(self):
        """Return the list of the buffers of the filled slots and then of the armed ones."""
        return [slot[0] for slot in self._filled.listed()] + self._armed.listed()
