"""Rings of slots: points 0.2 and 6.1 to 6.3."""

import unittest
from itertools import product

from tickrings.errors import RingError, TickringsError
from tickrings.slots import SlotRing


class SlotCase(unittest.TestCase):
    def seen(self, ring):
        return [ring.can_arm(), ring.open_slot(), ring.open_bytes(), ring.open_count(),
                ring.oldest(), ring.filled_slots(), ring.buffers()]

    def agrees(self, ring, slots, armed, added, filled):
        """Compare a ring with its slots as plain lists."""
        self.assertEqual(self.seen(ring), [
            len(armed) + len(filled) < slots, armed[0] if armed else None, added, len(added),
            filled[0] if filled else None, filled, [slot[0] for slot in filled] + armed])

    def refused(self, ring, call, *values):
        before = self.seen(ring)
        with self.assertRaises(RingError) as caught:
            call(*values)
        self.assertEqual(caught.exception.held, 0)
        self.assertEqual(self.seen(ring), before)

    def fill(self, ring, buffer, data, lost):
        self.assertIs(ring.arm(buffer), True)
        for byte in data:
            self.assertIsNone(ring.add(byte))
        self.assertIsNone(ring.close(lost))


class SlotRingTest(SlotCase):
    def test_a_new_ring_has_empty_slots_only(self):
        for slots in (1, 2, 32):
            self.agrees(SlotRing(slots), slots, [], [], [])

    def test_armed_until_no_slot_is_empty(self):
        for slots in (1, 3, 32):
            ring, armed = SlotRing(slots), []
            for buffer in range(100, 100 + slots):
                self.assertIs(ring.arm(buffer), True)
                armed.append(buffer)
                self.agrees(ring, slots, armed, [], [])
            for _ in range(2):
                self.assertIs(ring.arm(99), False)
                self.agrees(ring, slots, armed, [], [])

    def test_gone_round_several_times_with_one_slot_in_use(self):
        for slots in (1, 3, 32):
            ring = SlotRing(slots)
            for turn in range(3 * slots + 2):
                self.fill(ring, turn, [turn, 7], turn)
                self.agrees(ring, slots, [], [], [(turn, [turn, 7], turn)])
                self.assertEqual(ring.reap(), (turn, [turn, 7], turn))
                self.agrees(ring, slots, [], [], [])

    def test_gone_round_several_times_with_all_slots_in_use(self):
        for slots in (1, 2, 5, 32):
            ring = SlotRing(slots)
            for turn in range(4):
                buffers = [turn * slots + at for at in range(slots)]
                for buffer in buffers:
                    self.assertIs(ring.arm(buffer), True)
                for buffer in buffers:
                    self.assertEqual(ring.open_slot(), buffer)
                    ring.add(buffer + 1)
                    ring.close(0)
                self.assertIs(ring.arm(999), False)
                self.agrees(ring, slots, [], [], [(buffer, [buffer + 1], 0) for buffer in buffers])
                self.assertEqual([ring.reap()[0] for _ in buffers], buffers)
                self.agrees(ring, slots, [], [], [])

    def test_filled_slots_keep_new_ones_out(self):
        ring = SlotRing(2)
        self.fill(ring, 4, [1], 0)
        self.assertIs(ring.arm(5), True)
        self.assertEqual([ring.can_arm(), ring.arm(6)], [False, False])
        ring.close(0)
        self.assertEqual([ring.can_arm(), ring.arm(6), ring.buffers()], [False, False, [4, 5]])
        ring.reap()
        self.assertEqual([ring.can_arm(), ring.arm(6), ring.arm(7)], [True, True, False])

    def test_the_open_slot_is_the_oldest_armed_one(self):
        ring = SlotRing(3)
        for buffer in (9, 2, 5):
            ring.arm(buffer)
            self.assertEqual(ring.open_slot(), 9)
        ring.close(0)
        self.assertEqual(ring.open_slot(), 2)
        ring.close(0)
        self.assertEqual(ring.open_slot(), 5)
        ring.close(0)
        self.assertIsNone(ring.open_slot())

    def test_the_buffer_0_is_a_buffer(self):
        ring = SlotRing(1)
        ring.arm(0)
        self.assertEqual([ring.open_slot(), ring.buffers()], [0, [0]])
        ring.close(0)
        self.assertEqual(ring.reap(), (0, [], 0))

    def test_bytes_are_added_one_by_one_in_order(self):
        ring = SlotRing(2)
        ring.arm(3)
        data = []
        for byte in (0, 255, 7, 7):
            ring.add(byte)
            data.append(byte)
            self.agrees(ring, 2, [3], data, [])

    def test_the_number_of_bytes_is_not_checked(self):
        ring = SlotRing(1)
        self.fill(ring, 3, list(range(100)), 0)
        self.assertEqual(ring.reap(), (3, list(range(100)), 0))

    def test_arming_does_not_touch_the_bytes_of_the_open_slot(self):
        ring = SlotRing(2)
        ring.arm(3)
        ring.add(1)
        ring.arm(4)
        ring.add(2)
        self.agrees(ring, 2, [3, 4], [1, 2], [])

    def test_a_slot_holds_the_bytes_since_the_slot_before_it_was_closed(self):
        ring = SlotRing(3)
        for buffer in (1, 2, 3):
            ring.arm(buffer)
        ring.add(10)
        ring.close(0)
        self.agrees(ring, 3, [2, 3], [], [(1, [10], 0)])
        ring.add(20)
        ring.add(21)
        ring.close(5)
        self.agrees(ring, 3, [3], [], [(1, [10], 0), (2, [20, 21], 5)])

    def test_a_slot_closed_with_no_byte_and_with_lost_bytes(self):
        ring = SlotRing(4)
        rows = [(8, [], 0), (7, [], 3), (6, [1], 0), (5, [1, 2], 200)]
        for row in rows:
            self.fill(ring, *row)
        self.agrees(ring, 4, [], [], rows)
        self.assertEqual([ring.reap() for _ in rows], rows)

    def test_buffers_are_those_of_the_filled_slots_and_then_of_the_armed_ones(self):
        ring = SlotRing(5)
        for buffer in (40, 30, 20, 10):
            ring.arm(buffer)
        ring.close(0)
        ring.close(1)
        self.assertEqual(ring.buffers(), [40, 30, 20, 10])
        ring.reap()
        ring.arm(50)
        self.assertEqual(ring.buffers(), [30, 20, 10, 50])
        ring.arm(5)
        self.agrees(ring, 5, [20, 10, 50, 5], [], [(30, [], 1)])

    def test_oldest_changes_nothing(self):
        ring = SlotRing(2)
        self.fill(ring, 4, [1], 2)
        ring.arm(9)
        self.assertEqual([ring.oldest(), ring.oldest()], [(4, [1], 2)] * 2)
        self.agrees(ring, 2, [9], [], [(4, [1], 2)])

    def test_every_short_run_agrees_with_plain_lists(self):
        for slots in (1, 2, 3):
            for plan in product(("arm", "add", "close", "reap"), repeat=6):
                self.follow(slots, plan)

    def follow(self, slots, plan):
        ring, armed, added, filled = SlotRing(slots), [], [], []
        for value, word in enumerate(plan):
            if word == "arm":
                empty = len(armed) + len(filled) < slots
                self.assertIs(ring.arm(value), empty)
                armed += [value] if empty else []
            elif word == "reap" and filled:
                self.assertEqual(ring.reap(), filled.pop(0))
            elif word == "reap":
                self.refused(ring, ring.reap)
            elif not armed:
                self.refused(ring, getattr(ring, word), value)
            elif word == "add":
                ring.add(value)
                added.append(value)
            else:
                ring.close(value)
                filled.append((armed.pop(0), added, value))
                added = []
            self.assertLessEqual(len(armed) + len(filled), slots)
            self.agrees(ring, slots, armed, added, filled)


class RefusalTest(SlotCase):
    def test_add_and_close_with_no_armed_slot(self):
        for slots in (1, 3, 32):
            ring = SlotRing(slots)
            self.refused(ring, ring.add, 7)
            self.refused(ring, ring.close, 0)
            self.refused(ring, ring.close, 3)
            self.fill(ring, 4, [1], 0)
            self.refused(ring, ring.add, 7)
            self.refused(ring, ring.close, 0)
            ring.reap()
            self.refused(ring, ring.close, 0)

    def test_add_and_close_with_all_slots_filled(self):
        ring = SlotRing(2)
        self.fill(ring, 4, [1], 0)
        self.fill(ring, 5, [2], 6)
        self.refused(ring, ring.add, 7)
        self.refused(ring, ring.close, 0)

    def test_reap_with_no_filled_slot(self):
        for slots in (1, 3, 32):
            ring = SlotRing(slots)
            self.refused(ring, ring.reap)
            self.assertIsNone(ring.oldest())
            ring.arm(4)
            ring.add(1)
            self.refused(ring, ring.reap)
            self.assertIsNone(ring.oldest())
            ring.close(0)
            ring.reap()
            self.refused(ring, ring.reap)

    def test_a_refused_byte_is_not_kept(self):
        ring = SlotRing(1)
        self.refused(ring, ring.add, 7)
        ring.arm(2)
        self.agrees(ring, 1, [2], [], [])

    def test_the_error_is_one_of_the_program(self):
        with self.assertRaises(TickringsError):
            SlotRing(1).reap()


class ListsTest(SlotCase):
    def ring(self):
        ring = SlotRing(3)
        self.fill(ring, 4, [1, 2], 3)
        self.fill(ring, 6, [8], 0)
        ring.arm(5)
        ring.add(9)
        return ring

    def test_changing_a_returned_list_changes_nothing(self):
        ring = self.ring()
        ring.open_bytes().append(7)
        ring.oldest()[1].append(7)
        ring.filled_slots().pop()
        for _, data, _ in ring.filled_slots():
            data.clear()
        ring.buffers().clear()
        self.agrees(ring, 3, [5], [9], [(4, [1, 2], 3), (6, [8], 0)])

    def test_a_slot_that_was_reaped_is_no_longer_of_the_ring(self):
        ring = self.ring()
        buffer, data, lost = ring.reap()
        data.append(99)
        self.assertEqual([buffer, data, lost], [4, [1, 2, 99], 3])
        self.agrees(ring, 3, [5], [9], [(6, [8], 0)])

    def test_a_list_returned_earlier_does_not_change_later(self):
        ring = self.ring()
        opened, oldest, filled, buffers = (ring.open_bytes(), ring.oldest(), ring.filled_slots(),
                                           ring.buffers())
        ring.add(10)
        ring.close(1)
        ring.reap()
        self.assertEqual([opened, oldest, filled, buffers],
                         [[9], (4, [1, 2], 3), [(4, [1, 2], 3), (6, [8], 0)], [4, 6, 5]])

    def test_rings_do_not_share_their_slots(self):
        first, second = SlotRing(2), SlotRing(2)
        first.arm(1)
        first.add(2)
        self.agrees(second, 2, [], [], [])

    def test_the_example_of_the_document(self):
        ring = SlotRing(2)
        self.assertEqual([ring.arm(4), ring.arm(9), ring.arm(1), ring.open_slot()], [True, True, False, 4])
        ring.add(7)
        ring.close(3)
        self.assertEqual([ring.oldest(), ring.open_slot(), ring.buffers(), ring.can_arm()],
                         [(4, [7], 3), 9, [4, 9], False])


if __name__ == "__main__":
    unittest.main()
