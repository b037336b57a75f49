"""The pool of buffers."""

from tickrings.errors import PoolError
from tickrings.rings import Ring


class Pool:
    """Buffers with the numbers from 0 on, each of them free or with one owner."""

    def __init__(self, many):
        self._owners = [None] * many
        # The free buffers in the order in which they became free.
        self._free = Ring(many)
        for buffer in range(many):
            self._free.put(buffer)

    def free(self):
        """Return the number of free buffers."""
        return self._free.held()

    def owner(self, buffer):
        """Return the owner of a buffer, or None if it has none."""
        if not self._exists(buffer):
            return None
        return self._owners[buffer]

    def held(self, owner):
        """Return the ascending list of the buffers of an owner."""
        return [buffer for buffer, holder in enumerate(self._owners) if holder == owner]

    def acquire(self, owner):
        """Give an owner the buffer that has been free for the longest time; return its number."""
        if self.free() == 0:
            raise PoolError(-1)
        buffer = self._free.take()
        self._owners[buffer] = owner
        return buffer

    def release(self, buffer):
        """Make a buffer free."""
        if self.owner(buffer) is None:
            raise PoolError(buffer)
        self._owners[buffer] = None
        self._free.put(buffer)

    def may_acquire(self, owner, owners):
        """Return True if an owner may acquire a buffer, beside the other owners."""
        if self.free() == 0:
            return False
        if not self.held(owner):
            return True
        # What stays free is kept for those that have no buffer yet.
        without = [other for other in owners if not self.held(other)]
        return self.free() - 1 >= len(without)

    def _exists(self, buffer):
        return 0 <= buffer < len(self._owners)
