"""A device with its queues, rings, streams and handlers."""

from tickrings.marks import with_mark
from tickrings.numbering import receive_number, transmit_number
from tickrings.queues import ReceiveQueue, TransmitQueue
from tickrings.receiving import Receiver
from tickrings.sending import Sender
from tickrings.slots import SlotRing
from tickrings.streams import ReadStream, WriteStream


class Device:
    """A device; all its parts are empty at the start."""

    def __init__(self, index, settings, size, pool):
        self.index = index
        self.settings = settings
        self.incoming = ReceiveQueue(settings.queue)
        self.outgoing = TransmitQueue(settings.sending)
        self.receive_ring = SlotRing(settings.slots)
        self.transmit_ring = SlotRing(settings.slots)
        self.reading = ReadStream(settings.room)
        self.writing = WriteStream(settings.room)
        self.receiver = Receiver(self.incoming, self.receive_ring, size, settings.idle)
        self.sender = Sender(self.outgoing, self.transmit_ring, pool)

    def receive_owner(self):
        """Return the owner number of the receive ring."""
        return receive_number(self.index)

    def transmit_owner(self):
        """Return the owner number of the transmit ring."""
        return transmit_number(self.index)

    def inbound(self):
        """Return the list of the items on the way in, from the read stream to the receive queue."""
        items = self.reading.contents()
        for slot in self.receive_ring.filled_slots():
            items.extend(with_mark(slot[1], slot[2]))
        return items + self.receive_ring.open_bytes() + self.incoming.contents()

    def outbound(self):
        """Return the list of the bytes on the way out, from the transmit queue to the write stream."""
        return self.outgoing.contents() + self.sender.waiting() + self.writing.contents()
