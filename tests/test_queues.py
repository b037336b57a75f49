"""The queues of a device: points 0.2, 0.5 and 4.1 to 4.4."""

import unittest
from itertools import product

from tickrings.queues import ReceiveQueue, TransmitQueue


class ReceiveQueueTest(unittest.TestCase):
    def seen(self, queue):
        return [queue.contents(), queue.first(), queue.oldest_tick(), queue.bytes_held()]

    def arrived(self, capacity, many):
        """A queue at which the bytes 10, 11 .. have arrived in the ticks 0, 1 .."""
        queue = ReceiveQueue(capacity)
        for at in range(many):
            queue.arrive(10 + at, at)
        return queue

    def test_a_new_queue_is_empty(self):
        for capacity in (1, 4, 16):
            queue = ReceiveQueue(capacity)
            self.assertEqual(self.seen(queue), [[], None, None, 0])
            self.assertEqual(queue.capacity, capacity)

    def test_an_empty_queue_gives_nothing(self):
        queue = ReceiveQueue(1)
        for _ in range(2):
            self.assertEqual([queue.first(), queue.take(), queue.oldest_tick()], [None] * 3)
        queue.arrive(3, 5)
        queue.take()
        self.assertEqual([queue.first(), queue.take(), queue.oldest_tick()], [None] * 3)
        self.assertEqual(self.seen(queue), [[], None, None, 0])

    def test_bytes_that_fit(self):
        for capacity in (1, 3, 16):
            queue = ReceiveQueue(capacity)
            for at in range(capacity):
                self.assertIs(queue.arrive(255 - at, 2 * at), True)
                self.assertEqual(queue.bytes_held(), at + 1)
            self.assertEqual(self.seen(queue), [[255 - at for at in range(capacity)], 255, 0, capacity])

    def test_a_byte_that_finds_the_queue_full_is_lost(self):
        for capacity in (1, 2, 16):
            queue = self.arrived(capacity, capacity)
            self.assertIs(queue.arrive(99, 40), False)
            self.assertEqual(queue.contents(), [10 + at for at in range(capacity)] + [("lost", 1)])
            self.assertEqual([queue.bytes_held(), queue.oldest_tick()], [capacity, 0])

    def test_a_mark_grows_while_it_is_the_newest_item(self):
        queue = self.arrived(2, 2)
        for lost in range(1, 40):
            self.assertIs(queue.arrive(7, 10 + lost), False)
            self.assertEqual(queue.contents(), [10, 11, ("lost", lost)])

    def test_the_byte_0_is_a_byte(self):
        queue = ReceiveQueue(1)
        self.assertIs(queue.arrive(0, 0), True)
        self.assertIs(queue.arrive(0, 0), False)
        self.assertEqual(self.seen(queue), [[0, ("lost", 1)], 0, 0, 1])
        self.assertEqual([queue.take(), queue.take(), queue.take()], [0, ("lost", 1), None])

    def test_marks_do_not_count_for_the_capacity(self):
        queue = self.arrived(2, 3)
        queue.take()
        self.assertIs(queue.arrive(20, 3), True)
        self.assertIs(queue.arrive(21, 4), False)
        queue.take()
        self.assertEqual(self.seen(queue), [[("lost", 1), 20, ("lost", 1)], ("lost", 1), 2, 1])
        self.assertIs(queue.arrive(22, 5), True)
        self.assertIs(queue.arrive(23, 6), False)
        self.assertEqual(queue.contents(), [("lost", 1), 20, ("lost", 1), 22, ("lost", 1)])

    def test_a_mark_that_is_no_longer_the_newest_item_does_not_grow(self):
        queue = self.arrived(2, 4)
        self.assertEqual(queue.contents(), [10, 11, ("lost", 2)])
        queue.take()
        queue.arrive(30, 8)
        for _ in range(3):
            queue.arrive(31, 9)
        self.assertEqual(queue.contents(), [11, ("lost", 2), 30, ("lost", 3)])

    def test_the_ticks_of_bytes_and_of_marks(self):
        queue = ReceiveQueue(2)
        for tick in (3, 3, 5, 6, 9):
            queue.arrive(1, tick)
        queue.take()
        queue.arrive(2, 11)
        queue.arrive(3, 12)
        queue.arrive(3, 14)
        ticks = []
        while queue.first() is not None:
            ticks.append((queue.oldest_tick(), queue.take()))
        self.assertEqual(ticks, [(3, 1), (5, ("lost", 3)), (11, 2), (12, ("lost", 2))])

    def test_a_queue_that_holds_a_mark_alone(self):
        queue = self.arrived(1, 3)
        queue.take()
        self.assertEqual(self.seen(queue), [[("lost", 2)], ("lost", 2), 1, 0])
        self.assertIs(queue.arrive(50, 9), True)
        self.assertEqual(self.seen(queue), [[("lost", 2), 50], ("lost", 2), 1, 1])
        self.assertEqual([queue.take(), queue.oldest_tick(), queue.take(), queue.take()],
                         [("lost", 2), 9, 50, None])

    def test_a_mark_alone_is_taken_and_leaves_the_queue_empty(self):
        queue = self.arrived(1, 2)
        self.assertEqual([queue.take(), queue.take()], [10, ("lost", 1)])
        self.assertEqual(self.seen(queue), [[], None, None, 0])
        self.assertIs(queue.arrive(4, 7), True)
        self.assertEqual(self.seen(queue), [[4], 4, 7, 1])

    def test_first_changes_nothing(self):
        queue = self.arrived(1, 3)
        before = self.seen(queue)
        self.assertEqual([queue.first(), queue.first()], [10, 10])
        self.assertEqual(self.seen(queue), before)

    def test_every_short_run_agrees_with_the_document(self):
        for capacity in (1, 2):
            for plan in product((True, False), repeat=9):
                self.follow(capacity, plan)

    def follow(self, capacity, plan):
        queue, wanted, ticks = ReceiveQueue(capacity), [], []
        for now, arriving in enumerate(plan):
            held = len([item for item in wanted if not isinstance(item, tuple)])
            if not arriving:
                self.assertEqual(queue.take(), wanted.pop(0) if wanted else None)
                ticks = ticks[1:]
            elif held < capacity:
                self.assertIs(queue.arrive(now, now), True)
                wanted.append(now)
                ticks.append(now)
            else:
                self.assertIs(queue.arrive(now, now), False)
                if isinstance(wanted[-1], tuple):
                    wanted[-1] = ("lost", wanted[-1][1] + 1)
                else:
                    wanted.append(("lost", 1))
                    ticks.append(now)
            self.assertEqual(queue.contents(), wanted)
            self.assertEqual(queue.first(), wanted[0] if wanted else None)
            self.assertEqual(queue.oldest_tick(), ticks[0] if ticks else None)

    def test_a_capacity_beyond_the_limit_raises_no_error_of_its_own(self):
        queue = self.arrived(300, 301)
        self.assertEqual([queue.bytes_held(), queue.contents()[-1]], [300, ("lost", 1)])
        queue = self.arrived(0, 2)
        self.assertEqual(self.seen(queue), [[("lost", 2)], ("lost", 2), 0, 0])

    def test_a_returned_list_is_a_new_one(self):
        queue = self.arrived(2, 3)
        listed = queue.contents()
        listed.pop()
        listed[0] = 99
        self.assertEqual(self.seen(queue), [[10, 11, ("lost", 1)], 10, 0, 2])

    def test_queues_do_not_share_their_items(self):
        first, second = ReceiveQueue(2), ReceiveQueue(2)
        first.arrive(1, 1)
        self.assertEqual(self.seen(second), [[], None, None, 0])

    def test_the_example_of_the_document(self):
        queue = ReceiveQueue(2)
        self.assertEqual([queue.arrive(byte, 3) for byte in [7, 8, 9, 10]], [True, True, False, False])
        self.assertEqual(queue.take(), 7)
        self.assertIs(queue.arrive(11, 5), True)
        self.assertEqual(queue.contents(), [8, ("lost", 2), 11])
        self.assertEqual(queue.oldest_tick(), 3)


class TransmitQueueTest(unittest.TestCase):
    def test_a_new_queue_is_empty(self):
        for capacity in (1, 4, 16):
            queue = TransmitQueue(capacity)
            self.assertEqual([queue.capacity, queue.space(), queue.contents()], [capacity, capacity, []])

    def test_filled_and_emptied_several_times(self):
        for capacity in (1, 2, 5, 16):
            queue = TransmitQueue(capacity)
            for first in (0, 100, 50):
                data = list(range(first, first + capacity))
                for at, byte in enumerate(data):
                    self.assertIs(queue.put(byte), True)
                    self.assertEqual(queue.space(), capacity - at - 1)
                self.assertIs(queue.put(200), False)
                self.assertEqual([queue.space(), queue.contents()], [0, data])
                self.assertEqual([queue.take() for _ in data], data)
                self.assertIsNone(queue.take())
                self.assertEqual([queue.space(), queue.contents()], [capacity, []])

    def test_a_capacity_of_1(self):
        queue = TransmitQueue(1)
        self.assertIsNone(queue.take())
        for byte in (0, 255, 7):
            self.assertEqual([queue.put(byte), queue.put(9), queue.space(), queue.contents()],
                             [True, False, 0, [byte]])
            self.assertEqual([queue.take(), queue.take(), queue.space()], [byte, None, 1])

    def test_bytes_are_taken_in_order_while_others_come(self):
        queue = TransmitQueue(3)
        queue.put(1)
        queue.put(2)
        found = []
        for byte in range(3, 20):
            self.assertIs(queue.put(byte), True)
            self.assertEqual(queue.contents(), [byte - 2, byte - 1, byte])
            found.append(queue.take())
        self.assertEqual(found, list(range(1, 18)))

    def test_a_returned_list_is_a_new_one(self):
        queue = TransmitQueue(2)
        queue.put(5)
        listed = queue.contents()
        listed.append(6)
        listed[0] = 1
        self.assertEqual([queue.contents(), queue.space()], [[5], 1])

    def test_queues_do_not_share_their_bytes(self):
        first, second = TransmitQueue(2), TransmitQueue(2)
        first.put(1)
        self.assertEqual([second.contents(), second.space()], [[], 2])


if __name__ == "__main__":
    unittest.main()
