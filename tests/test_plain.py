"""The plain devices of the judge: points 4.2, 5.1, 7.1, 7.2, 10.1 to 10.3, 11.1, 11.2 and 13.1."""

import unittest

from tickrings.config import Settings
from tickrings.plain import PlainDevice


def plain(size=2, **settings):
    return PlainDevice(Settings(**settings), size)


class ReceiveTest(unittest.TestCase):
    def test_bytes_that_arrive_and_are_lost(self):
        device = plain(queue=2)
        found = []
        for tick in range(5):
            found.append(device.queue_is_full())
            if found[-1]:
                device.lose(tick)
            else:
                device.arrive(tick, tick)
        self.assertEqual([found, device.queue, device.ticks],
                         [[False, False, True, True, True], [0, 1, ("lost", 3)], [0, 1, 2]])

    def test_a_step_needs_an_item_and_an_armed_slot(self):
        device = plain()
        found = [device.can_receive()]
        device.arrive(5, 0)
        found.append(device.can_receive())
        device.arm(3)
        found.append(device.can_receive())
        device.receive_step(0)
        self.assertEqual(found + [device.can_receive()], [False, False, True, False])

    def test_the_ticks_of_the_items_that_are_left(self):
        device = plain()
        device.arm(3)
        for tick in (4, 6, 9):
            device.arrive(tick, tick)
        self.assertEqual([device.receive_step(9), device.queue, device.ticks], [4, [6, 9], [6, 9]])

    def test_slots_that_are_closed(self):
        device = plain(queue=1, idle=3)
        for buffer in (7, 8, 9):
            device.arm(buffer)
        for tick, byte in enumerate((1, 2, 3)):
            device.arrive(byte, tick)
            device.receive_step(tick)
        device.arrive(4, 3)
        device.lose(3)
        self.assertEqual([device.filled, device.added, device.armed], [[(7, [1, 2], 0)], [3], [8, 9]])
        self.assertEqual([device.close_idle(4), device.close_idle(5), device.close_idle(6)], [False, True, False])
        self.assertEqual([device.receive_step(6), device.receive_step(6)], [4, ("lost", 1)])
        self.assertEqual([device.filled, device.armed], [[(7, [1, 2], 0), (8, [3], 0), (9, [4], 1)], []])

    def test_waking(self):
        device = plain(queue=4, count=2, wait=3)
        self.assertIs(device.wakes(9), False)
        device.arrive(1, 5)
        self.assertEqual([device.wakes(7), device.wakes(8)], [False, True])
        device.arrive(1, 7)
        self.assertIs(device.wakes(7), True)


class DeliverTest(unittest.TestCase):
    def test_the_room(self):
        for held, wanted in ((0, True), (14, True), (15, False), (16, False)):
            device = plain()
            self.assertIs(device.can_deliver(), False)
            device.filled = [(4, [1, 2], 3), (5, [], 0)]
            device.reading = [("lost", 1)] + [9] * held
            self.assertIs(device.can_deliver(), wanted, held)

    def test_marks_that_meet(self):
        for slot, reading in (((4, [], 2), [9, ("lost", 5)]), ((4, [1], 2), [9, ("lost", 3), 1, ("lost", 2)]),
                              ((4, [1], 0), [9, ("lost", 3), 1])):
            device = plain()
            device.reading = [9, ("lost", 3)]
            device.filled = [slot]
            self.assertEqual([device.deliver(), device.reading, device.filled], [slot, reading, []])
        device = plain()
        device.reading = [9]
        device.filled = [(4, [], 2)]
        self.assertEqual([device.deliver(), device.reading], [(4, [], 2), [9, ("lost", 2)]])

    def test_what_a_read_gives(self):
        device = plain()
        device.reading = [1, ("lost", 2), 3, ("lost", 4)]
        self.assertEqual([device.read_gives(many) for many in range(5)], [True, True, False, True, True])
        device.read(3)
        self.assertEqual(device.reading, [("lost", 4)])


class TransmitTest(unittest.TestCase):
    def test_a_step_needs_a_filled_slot_and_space(self):
        for filled in (0, 1):
            for held in (0, 1, 2):
                device = plain(sending=2)
                device.staged = [(5, [1, 2])] * filled
                device.outgoing = [9] * held
                self.assertIs(device.can_transmit(), filled > 0 and held < 2)

    def test_a_buffer_is_free_with_its_last_byte(self):
        device = plain(size=3)
        device.write([1, 2, 3, 4])
        self.assertEqual([device.stage(6), device.stage(7), device.transmit_buffers()], [3, 1, 2])
        found = [device.transmit_step() for _ in range(4)]
        self.assertEqual(found, [(1, None), (2, None), (3, 6), (4, 7)])
        self.assertEqual([device.outgoing, device.staged], [[1, 2, 3, 4], []])

    def test_what_fits_into_the_write_stream(self):
        device = plain(room=16)
        device.write([1] * 10)
        self.assertEqual([device.write_fits([1] * many) for many in (0, 6, 7)], [True, True, False])


if __name__ == "__main__":
    unittest.main()
