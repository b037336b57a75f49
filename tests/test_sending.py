"""The transmit handler: points 0.6, 0.2 and 11.1 to 11.3."""

import unittest
from itertools import product

from tickrings.pool import Pool
from tickrings.queues import TransmitQueue
from tickrings.sending import Sender
from tickrings.slots import SlotRing


class SenderCase(unittest.TestCase):
    def sender(self, *slots, capacity=4):
        """A sender with filled slots of these bytes, in buffers of the owner 1."""
        sender = Sender(TransmitQueue(capacity), SlotRing(8), Pool(8))
        for data in slots:
            self.fill(sender, data)
        return sender

    def fill(self, sender, data):
        sender.ring.arm(sender.pool.acquire(1))
        for byte in data:
            sender.ring.add(byte)
        sender.ring.close(0)

    def seen(self, sender):
        return [sender.queue.contents(), sender.ring.filled_slots(), sender.ring.buffers(), sender.pool.held(1),
                sender.moved, sender.waiting()]


class FieldsTest(SenderCase):
    def test_the_fields_are_what_was_given(self):
        queue, ring, pool = TransmitQueue(3), SlotRing(2), Pool(2)
        sender = Sender(queue, ring, pool)
        self.assertIs(sender.queue, queue)
        self.assertIs(sender.ring, ring)
        self.assertIs(sender.pool, pool)
        self.assertEqual(sender.moved, 0)
        self.assertIs(type(sender.moved), int)

    def test_the_queue_the_ring_and_the_pool_are_modified(self):
        queue, ring, pool = TransmitQueue(3), SlotRing(2), Pool(2)
        sender = Sender(queue, ring, pool)
        ring.arm(pool.acquire(9))
        ring.add(6)
        ring.close(0)
        self.assertEqual(sender.step(), 6)
        self.assertEqual([queue.contents(), ring.filled_slots(), ring.buffers(), pool.free()], [[6], [], [], 2])


class CanStepTest(SenderCase):
    def test_no_filled_slot_no_space_and_both(self):
        for filled, capacity, held in product((0, 1, 2), (1, 2, 3), (0, 1, 2, 3)):
            if held <= capacity:
                sender = self.sender(*[[5]] * filled, capacity=capacity)
                for byte in range(held):
                    sender.queue.put(byte)
                before = self.seen(sender)
                self.assertIs(sender.can_step(), filled > 0 and held < capacity)
                self.assertEqual(self.seen(sender), before)

    def test_an_armed_slot_is_not_a_filled_one(self):
        sender = self.sender()
        sender.ring.arm(sender.pool.acquire(1))
        sender.ring.add(7)
        self.assertIs(sender.can_step(), False)
        sender.ring.close(0)
        self.assertIs(sender.can_step(), True)

    def test_in_the_middle_of_a_slot(self):
        sender = self.sender([1, 2, 3], capacity=2)
        found = [sender.can_step()]
        for _ in range(2):
            sender.step()
            found.append(sender.can_step())
        sender.queue.take()
        found.append(sender.can_step())
        sender.step()
        sender.queue.take()
        self.assertEqual(found + [sender.can_step()], [True, True, False, True, False])


class StepTest(SenderCase):
    def test_a_slot_of_one_byte(self):
        for byte in (0, 1, 255):
            sender = self.sender([byte])
            self.assertEqual(sender.step(), byte)
            self.assertEqual(self.seen(sender), [[byte], [], [], [], 0, []])
            self.assertEqual([sender.pool.free(), sender.pool.owner(0)], [8, None])

    def test_a_slot_of_several_bytes(self):
        sender = self.sender([4, 0, 6])
        self.assertEqual(sender.step(), 4)
        self.assertEqual(self.seen(sender), [[4], [(0, [4, 0, 6], 0)], [0], [0], 1, [0, 6]])
        self.assertEqual(sender.step(), 0)
        self.assertEqual(self.seen(sender), [[4, 0], [(0, [4, 0, 6], 0)], [0], [0], 2, [6]])
        self.assertEqual(sender.step(), 6)
        self.assertEqual(self.seen(sender), [[4, 0, 6], [], [], [], 0, []])

    def test_the_buffer_is_free_in_the_step_of_the_last_byte_and_not_before(self):
        for many in (1, 2, 3, 16):
            sender = self.sender(list(range(many)), capacity=16)
            free = []
            for _ in range(many):
                sender.step()
                free.append((sender.pool.free(), sender.pool.owner(0), sender.ring.can_arm()))
            self.assertEqual(free, [(7, 1, True)] * (many - 1) + [(8, None, True)])

    def test_the_slot_is_empty_in_the_step_of_the_last_byte(self):
        sender = Sender(TransmitQueue(4), SlotRing(1), Pool(1))
        self.fill(sender, [1, 2])
        found = [sender.ring.can_arm()]
        for _ in range(2):
            sender.step()
            found.append(sender.ring.can_arm())
        self.assertEqual(found, [False, False, True])

    def test_the_buffer_goes_behind_the_other_free_ones(self):
        sender = self.sender([1])
        sender.step()
        self.assertEqual([sender.pool.acquire(3) for _ in range(8)], [1, 2, 3, 4, 5, 6, 7, 0])

    def test_several_slots_leave_in_the_order_in_which_they_were_put(self):
        sender = self.sender([1, 2], [3], [4, 5, 6], capacity=16)
        found = [sender.step() for _ in range(6)]
        self.assertEqual(found, [1, 2, 3, 4, 5, 6])
        self.assertEqual(self.seen(sender), [[1, 2, 3, 4, 5, 6], [], [], [], 0, []])

    def test_each_slot_begins_at_its_first_byte(self):
        sender = self.sender([1, 2], [3, 4])
        sender.step()
        sender.step()
        self.assertEqual(self.seen(sender), [[1, 2], [(1, [3, 4], 0)], [1], [1], 0, [3, 4]])
        sender.step()
        self.assertEqual(self.seen(sender), [[1, 2, 3], [(1, [3, 4], 0)], [1], [1], 1, [4]])

    def test_slots_that_are_filled_between_the_steps(self):
        sender = self.sender([1, 2], capacity=16)
        sender.step()
        self.fill(sender, [3])
        self.assertEqual(self.seen(sender), [[1], [(0, [1, 2], 0), (1, [3], 0)], [0, 1], [0, 1], 1, [2, 3]])
        self.assertEqual([sender.step(), sender.step()], [2, 3])
        self.fill(sender, [4])
        self.assertEqual([sender.step(), sender.queue.contents(), sender.pool.free()], [4, [1, 2, 3, 4], 8])

    def test_equal_bytes_are_counted_and_not_sought(self):
        sender = self.sender([7, 7], [7], capacity=16)
        found = []
        while sender.can_step():
            sender.step()
            found.append((sender.moved, len(sender.waiting())))
        self.assertEqual(found, [(1, 2), (0, 1), (0, 0)])

    def test_the_step_goes_behind_the_bytes_in_the_queue(self):
        sender = self.sender([9])
        sender.queue.put(3)
        sender.step()
        self.assertEqual([sender.queue.take(), sender.queue.take()], [3, 9])


class WaitingTest(SenderCase):
    def test_nothing_is_filled(self):
        sender = self.sender()
        self.assertEqual(sender.waiting(), [])
        sender.ring.arm(sender.pool.acquire(1))
        sender.ring.add(7)
        self.assertEqual(sender.waiting(), [])

    def test_in_the_middle_of_the_oldest_slot(self):
        sender = self.sender([1, 2, 3], [4], [5, 6])
        found = [sender.waiting()]
        for _ in range(4):
            sender.step()
            found.append(sender.waiting())
        self.assertEqual(found, [[1, 2, 3, 4, 5, 6], [2, 3, 4, 5, 6], [3, 4, 5, 6], [4, 5, 6], [5, 6]])

    def test_a_returned_list_can_be_changed(self):
        sender = self.sender([1, 2], [3])
        before = self.seen(sender)
        sender.waiting().append(9)
        sender.waiting().clear()
        self.assertEqual(self.seen(sender), before)
        sender.step()
        before = self.seen(sender)
        sender.waiting()[0] = 99
        self.assertEqual(self.seen(sender), before)
        self.assertEqual([sender.step(), sender.step()], [2, 3])

    def test_senders_do_not_share_anything(self):
        first, second = self.sender([1, 2]), self.sender([1, 2])
        first.step()
        self.assertEqual([second.moved, second.waiting(), second.queue.contents()], [0, [1, 2], []])


if __name__ == "__main__":
    unittest.main()
