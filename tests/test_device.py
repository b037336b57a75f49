"""Devices: points 0.2, 0.4, 0.6 and 12.1 to 12.3."""

import unittest

from tickrings.config import Settings
from tickrings.device import Device
from tickrings.pool import Pool
from tickrings.queues import ReceiveQueue, TransmitQueue
from tickrings.receiving import Receiver
from tickrings.sending import Sender
from tickrings.slots import SlotRing
from tickrings.streams import ReadStream, WriteStream


def device(index=0, size=4, many=8, **settings):
    return Device(index, Settings(**settings), size, Pool(many))


def fill(ring, pool, owner, data, lost):
    ring.arm(pool.acquire(owner))
    for byte in data:
        ring.add(byte)
    ring.close(lost)


def receive_slot(made, data, lost):
    fill(made.receive_ring, made.sender.pool, made.receive_owner(), data, lost)


def transmit_slot(made, data):
    fill(made.transmit_ring, made.sender.pool, made.transmit_owner(), data, 0)


def arrive(made, *data):
    for byte in data:
        made.incoming.arrive(byte, 0)


class PartsTest(unittest.TestCase):
    def test_the_kinds_of_the_fields(self):
        made = device()
        kinds = {"incoming": ReceiveQueue, "outgoing": TransmitQueue, "receive_ring": SlotRing,
                 "transmit_ring": SlotRing, "reading": ReadStream, "writing": WriteStream,
                 "receiver": Receiver, "sender": Sender}
        for field, kind in kinds.items():
            self.assertIs(type(getattr(made, field)), kind, field)
        self.assertIsNot(made.receive_ring, made.transmit_ring)

    def test_what_was_given(self):
        settings = Settings()
        for index in range(4):
            made = Device(index, settings, 3, Pool(2))
            self.assertEqual(made.index, index)
            self.assertIs(made.settings, settings)

    def test_the_parts_have_the_settings(self):
        settings = Settings(queue=3, sending=5, slots=2, room=40, idle=7)
        pool = Pool(2)
        made = Device(1, settings, 6, pool)
        self.assertEqual([made.incoming.capacity, made.outgoing.capacity], [3, 5])
        self.assertEqual([made.reading.room, made.writing.room], [40, 40])
        self.assertEqual([made.receiver.size, made.receiver.idle], [6, 7])
        for ring in (made.receive_ring, made.transmit_ring):
            self.assertEqual([ring.arm(0), ring.arm(1), ring.arm(2)], [True, True, False])

    def test_the_handlers_have_the_parts_of_the_device(self):
        pool = Pool(2)
        made = Device(0, Settings(), 4, pool)
        self.assertIs(made.receiver.queue, made.incoming)
        self.assertIs(made.receiver.ring, made.receive_ring)
        self.assertIs(made.sender.queue, made.outgoing)
        self.assertIs(made.sender.ring, made.transmit_ring)
        self.assertIs(made.sender.pool, pool)

    def test_all_parts_are_empty_at_the_start(self):
        made = device()
        self.assertEqual([made.incoming.contents(), made.outgoing.contents()], [[], []])
        self.assertEqual([made.reading.contents(), made.writing.contents()], [[], []])
        for ring in (made.receive_ring, made.transmit_ring):
            self.assertEqual([ring.buffers(), ring.open_bytes(), ring.filled_slots()], [[], [], []])
        self.assertEqual([made.receiver.latest, made.sender.moved, made.sender.pool.free()], [0, 0, 8])
        self.assertEqual([made.inbound(), made.outbound()], [[], []])

    def test_the_owner_numbers(self):
        found = [(device(d).receive_owner(), device(d).transmit_owner()) for d in range(4)]
        self.assertEqual(found, [(0, 1), (2, 3), (4, 5), (6, 7)])

    def test_devices_share_only_the_pool(self):
        pool, settings = Pool(4), Settings()
        first, second = Device(0, settings, 4, pool), Device(1, settings, 4, pool)
        arrive(first, 1)
        first.writing.write([2])
        first.reading.append([3])
        first.outgoing.put(4)
        receive_slot(first, [5], 0)
        transmit_slot(first, [6])
        self.assertEqual([second.inbound(), second.outbound()], [[], []])
        self.assertEqual([second.receive_ring.buffers(), second.transmit_ring.buffers()], [[], []])
        self.assertEqual(second.sender.pool.free(), 2)


class InboundTest(unittest.TestCase):
    def full(self):
        """A device with items in all four places, marks next to each other in three of them."""
        made = device(queue=2, slots=4)
        arrive(made, 50, 51, 52)
        made.incoming.take()
        made.incoming.take()
        arrive(made, 53, 54, 55)
        made.reading.append([1, ("lost", 2)])
        receive_slot(made, [], 3)
        receive_slot(made, [20, 21], 4)
        receive_slot(made, [22], 0)
        made.receive_ring.arm(made.sender.pool.acquire(0))
        made.receive_ring.add(30)
        made.receive_ring.add(31)
        return made

    def test_each_place_alone(self):
        made = device()
        arrive(made, 7, 8)
        self.assertEqual(made.inbound(), [7, 8])
        made = device()
        made.reading.append([("lost", 4), 9])
        self.assertEqual(made.inbound(), [("lost", 4), 9])
        made = device()
        receive_slot(made, [3, 2, 1], 0)
        self.assertEqual(made.inbound(), [3, 2, 1])
        made = device()
        made.receive_ring.arm(0)
        made.receive_ring.arm(1)
        self.assertEqual(made.inbound(), [])
        made.receive_ring.add(0)
        self.assertEqual(made.inbound(), [0])

    def test_all_four_places_at_once(self):
        self.assertEqual(self.full().inbound(), [1, ("lost", 2), ("lost", 3), 20, 21, ("lost", 4), 22, 30, 31,
                                                 ("lost", 1), 53, 54, ("lost", 1)])

    def test_a_filled_slot_with_lost_bytes_and_no_byte(self):
        made = device()
        receive_slot(made, [], 5)
        self.assertEqual(made.inbound(), [("lost", 5)])
        self.assertIs(type(made.inbound()[0]), tuple)

    def test_adjacent_marks_are_not_merged(self):
        made = device(queue=1)
        made.reading.append([("lost", 1)])
        receive_slot(made, [], 2)
        receive_slot(made, [], 3)
        arrive(made, 9, 9)
        made.incoming.take()
        self.assertEqual(made.inbound(), [("lost", 1), ("lost", 2), ("lost", 3), ("lost", 1)])

    def test_the_transmit_side_is_not_told(self):
        made = device()
        made.writing.write([1])
        transmit_slot(made, [2])
        made.outgoing.put(3)
        self.assertEqual(made.inbound(), [])

    def test_changing_the_list_changes_nothing(self):
        made = self.full()
        before = made.inbound()
        wanted = list(before)
        before.clear()
        for change in (lambda xs: xs.append(1), lambda xs: xs.reverse(), lambda xs: xs.pop(0)):
            change(made.inbound())
            self.assertEqual(made.inbound(), wanted)
        for place in ("reading", "queue", "slot", "open"):
            made = device()
            if place == "reading":
                made.reading.append([1])
            elif place == "queue":
                arrive(made, 1)
            else:
                made.receive_ring.arm(0)
                made.receive_ring.add(1)
                if place == "slot":
                    made.receive_ring.close(0)
            made.inbound().append(2)
            self.assertEqual(made.inbound(), [1], place)

    def test_it_changes_nothing_itself(self):
        made = self.full()
        wanted = made.inbound()
        self.assertEqual(made.inbound(), wanted)
        self.assertEqual(made.reading.contents(), [1, ("lost", 2)])
        self.assertEqual([slot[1:] for slot in made.receive_ring.filled_slots()],
                         [([], 3), ([20, 21], 4), ([22], 0)])
        self.assertEqual(made.incoming.contents(), [("lost", 1), 53, 54, ("lost", 1)])


class OutboundTest(unittest.TestCase):
    def full(self):
        made = device(slots=4)
        transmit_slot(made, [10, 11, 12])
        transmit_slot(made, [13])
        made.outgoing.put(1)
        made.sender.step()
        made.writing.write([20, 21])
        return made

    def test_each_place_alone(self):
        made = device()
        made.outgoing.put(0)
        made.outgoing.put(5)
        self.assertEqual(made.outbound(), [0, 5])
        made = device()
        transmit_slot(made, [7, 6])
        transmit_slot(made, [5])
        self.assertEqual(made.outbound(), [7, 6, 5])
        made = device()
        made.writing.write([4, 3])
        self.assertEqual(made.outbound(), [4, 3])

    def test_all_places_at_once_in_the_middle_of_a_slot(self):
        made = self.full()
        self.assertEqual(made.outbound(), [1, 10, 11, 12, 13, 20, 21])
        self.assertEqual([made.outgoing.contents(), made.sender.waiting()], [[1, 10], [11, 12, 13]])
        while made.sender.can_step():
            made.sender.step()
            self.assertEqual(made.outbound(), [1, 10, 11, 12, 13, 20, 21])
        made.outgoing.take()
        self.assertEqual(made.outbound(), [10, 11, 12, 13, 20, 21])

    def test_the_receive_side_is_not_told(self):
        made = device()
        arrive(made, 1)
        made.reading.append([2])
        receive_slot(made, [3], 1)
        self.assertEqual(made.outbound(), [])

    def test_changing_the_list_changes_nothing(self):
        made = self.full()
        wanted = list(made.outbound())
        for change in (lambda xs: xs.clear(), lambda xs: xs.append(1), lambda xs: xs.pop(0)):
            change(made.outbound())
            self.assertEqual(made.outbound(), wanted)
        for place in ("outgoing", "slot", "writing"):
            made = device()
            if place == "outgoing":
                made.outgoing.put(1)
            elif place == "slot":
                transmit_slot(made, [1])
            else:
                made.writing.write([1])
            made.outbound().append(2)
            self.assertEqual(made.outbound(), [1], place)


if __name__ == "__main__":
    unittest.main()
