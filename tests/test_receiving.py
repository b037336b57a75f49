"""The receive handler: points 0.6 and 10.1 to 10.3."""

import unittest
from itertools import product

from tickrings.queues import ReceiveQueue
from tickrings.receiving import Receiver
from tickrings.slots import SlotRing


class ReceiverCase(unittest.TestCase):
    def receiver(self, slots=2, armed=2, size=2, idle=4, capacity=16):
        ring = SlotRing(slots)
        for buffer in range(50, 50 + armed):
            ring.arm(buffer)
        return Receiver(ReceiveQueue(capacity), ring, size, idle)

    def arrive(self, receiver, *data, tick=0):
        for byte in data:
            receiver.queue.arrive(byte, tick)

    def seen(self, receiver):
        return [receiver.queue.contents(), receiver.ring.filled_slots(), receiver.ring.open_slot(),
                receiver.ring.open_bytes(), receiver.latest]

    def with_mark_first(self, receiver, lost):
        """Let a mark be the oldest item of the receiver's queue, which has the capacity 1."""
        self.arrive(receiver, 9, *[8] * lost)
        self.assertEqual([receiver.queue.take(), receiver.queue.first()], [9, ("lost", lost)])


class FieldsTest(ReceiverCase):
    def test_the_fields_are_what_was_given(self):
        queue, ring = ReceiveQueue(3), SlotRing(2)
        receiver = Receiver(queue, ring, 5, 7)
        self.assertIs(receiver.queue, queue)
        self.assertIs(receiver.ring, ring)
        self.assertEqual([receiver.size, receiver.idle, receiver.latest], [5, 7, 0])

    def test_the_queue_and_the_ring_are_modified(self):
        queue, ring = ReceiveQueue(3), SlotRing(2)
        receiver = Receiver(queue, ring, 1, 7)
        queue.arrive(4, 0)
        ring.arm(6)
        self.assertEqual(receiver.step(0), 4)
        self.assertEqual([queue.contents(), ring.oldest()], [[], (6, [4], 0)])


class CanStepTest(ReceiverCase):
    def test_no_item_no_open_slot_and_both(self):
        for items, armed in product((0, 1, 2), (0, 1, 2)):
            receiver = self.receiver(armed=armed)
            self.arrive(receiver, *[0] * items)
            before = self.seen(receiver)
            self.assertIs(receiver.can_step(), items > 0 and armed > 0)
            self.assertEqual(self.seen(receiver), before)

    def test_filled_slots_are_not_open(self):
        receiver = self.receiver(slots=2, armed=1, size=1)
        self.arrive(receiver, 1, 2)
        receiver.step(0)
        self.assertIs(receiver.can_step(), False)
        receiver.ring.arm(60)
        self.assertIs(receiver.can_step(), True)

    def test_a_mark_alone_is_an_item(self):
        receiver = self.receiver(capacity=1)
        self.with_mark_first(receiver, 2)
        self.assertIs(receiver.can_step(), True)

    def test_the_buffer_0_is_an_open_slot(self):
        receiver = self.receiver(armed=0)
        receiver.ring.arm(0)
        self.arrive(receiver, 0)
        self.assertIs(receiver.can_step(), True)


class StepTest(ReceiverCase):
    def test_a_byte_that_does_not_fill_the_slot(self):
        receiver = self.receiver(size=3)
        self.arrive(receiver, 7, 8)
        self.assertEqual(receiver.step(5), 7)
        self.assertEqual(self.seen(receiver), [[8], [], 50, [7], 5])
        self.assertEqual(receiver.step(6), 8)
        self.assertEqual(self.seen(receiver), [[], [], 50, [7, 8], 6])

    def test_a_byte_that_fills_the_slot(self):
        for size in (1, 2, 16):
            receiver = self.receiver(size=size)
            data = [255 - at for at in range(size)]
            self.arrive(receiver, *data)
            for at, byte in enumerate(data):
                self.assertEqual(self.seen(receiver)[1:4], [[], 50, data[:at]])
                self.assertEqual(receiver.step(10 + at), byte)
            self.assertEqual(self.seen(receiver), [[], [(50, data, 0)], 51, [], 9 + size])

    def test_the_next_byte_goes_to_the_next_slot(self):
        receiver = self.receiver(slots=3, armed=3, size=2)
        self.arrive(receiver, 1, 2, 3, 4, 5)
        self.assertEqual([receiver.step(now) for now in range(5)], [1, 2, 3, 4, 5])
        self.assertEqual(self.seen(receiver), [[], [(50, [1, 2], 0), (51, [3, 4], 0)], 52, [5], 4])

    def test_the_byte_0_is_a_byte(self):
        receiver = self.receiver(size=2)
        self.arrive(receiver, 0)
        self.assertEqual(receiver.step(3), 0)
        self.assertEqual(self.seen(receiver), [[], [], 50, [0], 3])

    def test_a_mark_with_no_byte_in_the_open_slot(self):
        for lost in (1, 2, 40):
            receiver = self.receiver(capacity=1)
            self.with_mark_first(receiver, lost)
            self.assertEqual(receiver.step(9), ("lost", lost))
            self.assertEqual(self.seen(receiver), [[], [(50, [], lost)], 51, [], 0])

    def test_a_mark_with_some_bytes_in_the_open_slot(self):
        receiver = self.receiver(size=4, capacity=2)
        self.arrive(receiver, 1, 2, 3, 3, 3)
        self.assertEqual([receiver.step(now) for now in (4, 5, 6)], [1, 2, ("lost", 3)])
        self.assertEqual(self.seen(receiver), [[], [(50, [1, 2], 3)], 51, [], 5])

    def test_a_mark_behind_a_full_slot_closes_the_next_one(self):
        receiver = self.receiver(size=2, capacity=2)
        self.arrive(receiver, 1, 2, 3)
        for now in (1, 2, 3):
            receiver.step(now)
        self.assertEqual(self.seen(receiver), [[], [(50, [1, 2], 0), (51, [], 1)], None, [], 2])

    def test_a_byte_behind_a_mark_goes_to_the_next_slot(self):
        receiver = self.receiver(size=4, capacity=1)
        self.arrive(receiver, 1, 2)
        receiver.step(0)
        self.arrive(receiver, 3)
        self.assertEqual([receiver.step(1), receiver.step(2)], [("lost", 1), 3])
        self.assertEqual(self.seen(receiver), [[], [(50, [1], 1)], 51, [3], 2])

    def test_latest_is_the_tick_of_the_latest_byte_and_not_of_a_mark(self):
        receiver = self.receiver(slots=4, armed=4, size=4, capacity=1)
        self.arrive(receiver, 1, 2)
        found = [receiver.latest]
        for now in (3, 8):
            receiver.step(now)
            found.append(receiver.latest)
        self.arrive(receiver, 5)
        receiver.step(13)
        self.assertEqual(found + [receiver.latest], [0, 3, 3, 13])

    def test_one_item_for_each_step_and_in_order(self):
        receiver = self.receiver(slots=32, armed=32, size=3, capacity=4)
        self.arrive(receiver, 1, 2, 3, 4, 5, 5)
        found = []
        for now in range(3):
            found.append(receiver.step(now))
            self.arrive(receiver, 10 + now)
        while receiver.can_step():
            found.append(receiver.step(9))
        self.assertEqual(found, [1, 2, 3, 4, ("lost", 2), 10, 11, 12])
        self.assertEqual(self.seen(receiver)[1:4],
                         [[(50, [1, 2, 3], 0), (51, [4], 2), (52, [10, 11, 12], 0)], 53, []])


class CloseIdleTest(ReceiverCase):
    def filled_at(self, now, idle, size=3):
        receiver = self.receiver(size=size, idle=idle)
        self.arrive(receiver, 7)
        receiver.step(now)
        return receiver

    def test_one_tick_before_at_and_after_idle(self):
        for idle in (1, 2, 4, 32):
            for now in (0, 6):
                for more in (0, 1, 100):
                    receiver = self.filled_at(now, idle)
                    before = self.seen(receiver)
                    self.assertIs(receiver.close_idle(now + idle - 1), False)
                    self.assertEqual(self.seen(receiver), before)
                    self.assertIs(receiver.close_idle(now + idle + more), True)
                    self.assertEqual(self.seen(receiver), [[], [(50, [7], 0)], 51, [], now])

    def test_the_latest_byte_decides_and_not_the_first_one(self):
        receiver = self.filled_at(2, 4)
        self.arrive(receiver, 8)
        receiver.step(5)
        self.assertEqual([receiver.close_idle(now) for now in (6, 7, 8, 9)], [False, False, False, True])
        self.assertEqual(receiver.ring.filled_slots(), [(50, [7, 8], 0)])

    def test_an_empty_open_slot_is_not_closed(self):
        receiver = self.receiver()
        for now in (0, 4, 5, 1000):
            self.assertIs(receiver.close_idle(now), False)
        self.assertEqual(self.seen(receiver), [[], [], 50, [], 0])

    def test_the_slot_behind_a_closed_one_is_not_closed(self):
        receiver = self.filled_at(0, 2)
        self.assertEqual([receiver.close_idle(now) for now in (2, 3, 9)], [True, False, False])
        receiver = self.filled_at(0, 2, size=1)
        self.assertEqual([receiver.close_idle(now) for now in (2, 3, 9)], [False] * 3)
        self.assertEqual(self.seen(receiver), [[], [(50, [7], 0)], 51, [], 0])

    def test_no_open_slot(self):
        for armed in (0, 1):
            receiver = self.receiver(armed=armed, size=1)
            if armed:
                self.arrive(receiver, 7)
                receiver.step(0)
            before = self.seen(receiver)
            for now in (0, 4, 100):
                self.assertIs(receiver.close_idle(now), False)
            self.assertEqual(self.seen(receiver), before)

    def test_items_in_the_queue_do_not_matter(self):
        receiver = self.filled_at(0, 2)
        self.arrive(receiver, 8, 9)
        self.assertEqual([receiver.close_idle(1), receiver.close_idle(2)], [False, True])
        self.assertEqual(self.seen(receiver), [[8, 9], [(50, [7], 0)], 51, [], 0])


class ListsTest(ReceiverCase):
    def test_receivers_do_not_share_anything(self):
        first, second = self.receiver(), self.receiver()
        self.arrive(first, 1)
        first.step(6)
        self.assertEqual(self.seen(second), [[], [], 50, [], 0])


if __name__ == "__main__":
    unittest.main()
