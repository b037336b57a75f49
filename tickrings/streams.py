"""The streams that readers read and writers write."""

from tickrings.errors import StreamFull
from tickrings.marks import bytes_among, is_mark, joined


class ReadStream:
    """The items that a reader has not read yet."""

    def __init__(self, room):
        self.room = room
        self._items = []

    def space(self):
        """Return how many more bytes fit."""
        return self.room - bytes_among(self._items)

    def append(self, items):
        """Append a list of items."""
        space = self.space()
        # The whole list is measured first: it is appended whole or not at all.
        if bytes_among(items) > space:
            raise StreamFull(space)
        for item in items:
            self._append_one(item)

    def read(self, n):
        """Remove items for n bytes and return them as a list."""
        taken = []
        many = 0
        while many < n and self._items:
            item = self._items.pop(0)
            taken.append(item)
            if not is_mark(item):
                many += 1
        return taken

    def contents(self):
        """Return the list of the items, the oldest one first."""
        return list(self._items)

    def _append_one(self, item):
        if is_mark(item) and self._items and is_mark(self._items[-1]):
            self._items[-1] = joined(self._items[-1], item)
        else:
            self._items.append(item)


class WriteStream:
    """The bytes that were accepted from writers and wait for their buffers."""

    def __init__(self, room):
        self.room = room
        self._bytes = []

    def write(self, data):
        """Append the first bytes of a list that fit and return how many were accepted."""
        accepted = data[:self.room - self.held()]
        self._bytes.extend(accepted)
        return len(accepted)

    def take(self, n):
        """Remove up to n bytes, the oldest ones first, and return them as a list."""
        taken = self._bytes[:n]
        self._bytes = self._bytes[n:]
        return taken

    def held(self):
        """Return the number of bytes in the stream."""
        return len(self._bytes)

    def contents(self):
        """Return the list of the bytes, the oldest one first."""
        return list(self._bytes)
