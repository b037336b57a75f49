"""The jobs: points 0.2, 0.7, 0.8, 9.3 and 13.1 to 13.3."""

import unittest

from tickrings.config import Settings
from tickrings.device import Device
from tickrings.jobs import can_work, perform
from tickrings.pool import Pool

OTHERS = 90


class JobCase(unittest.TestCase):
    def made(self, many=2, buffers=8, size=4, **settings):
        """Some devices and their pool."""
        self.pool = Pool(buffers)
        self.size = size
        self.devices = [Device(d, Settings(**settings), size, self.pool) for d in range(many)]
        self.owners = list(range(2 * many))
        return self.devices

    def can(self, job):
        return can_work(self.devices, self.pool, self.owners, job)

    def perform(self, job):
        return perform(self.devices, self.pool, self.size, job)

    def fill(self, d, data, lost):
        """Fill a slot of the receive ring."""
        device = self.devices[d]
        device.receive_ring.arm(self.pool.acquire(device.receive_owner()))
        for byte in data:
            device.receive_ring.add(byte)
        device.receive_ring.close(lost)

    def leave_free(self, many):
        """Give buffers to somebody else until so many are free."""
        while self.pool.free() > many:
            self.pool.acquire(OTHERS)

    def seen(self):
        rows = [self.pool.free(), [self.pool.owner(buffer) for buffer in range(8)]]
        for device in self.devices:
            rows += [device.inbound(), device.outbound(), device.reading.contents(), device.writing.contents(),
                     device.outgoing.contents(), device.incoming.contents()]
            for ring in (device.receive_ring, device.transmit_ring):
                rows += [ring.filled_slots(), ring.buffers(), ring.open_bytes()]
        return rows


class NumbersTest(JobCase):
    def test_the_job_numbers_of_several_devices(self):
        for d in range(4):
            self.made(many=4, buffers=16)
            self.assertEqual([job for job in range(12) if self.can(job)], [1, 4, 7, 10])
            self.fill(d, [1], 0)
            self.assertEqual([job for job in range(12) if self.can(job) and job % 3 == 0], [3 * d])
            self.devices[d].writing.write([1])
            self.assertEqual([job for job in range(12) if self.can(job) and job % 3 == 2], [3 * d + 2])

    def test_each_job_works_for_its_own_device(self):
        for d in range(4):
            self.made(many=4, buffers=16)
            for other in range(4):
                self.fill(other, [10 + other], other)
                self.devices[other].writing.write([20 + other])
            self.assertEqual(self.perform(3 * d), ("delivered", d, 1, d))
            self.assertEqual(self.perform(3 * d + 1), ("armed", d, 4))
            self.assertEqual(self.perform(3 * d + 2), ("staged", d, 1))
            delivered = [bool(device.reading.contents()) for device in self.devices]
            armed = [device.receive_ring.open_slot() for device in self.devices]
            staged = [device.transmit_ring.filled_slots() for device in self.devices]
            self.assertEqual(delivered, [other == d for other in range(4)])
            self.assertEqual(armed, [4 if other == d else None for other in range(4)])
            self.assertEqual(staged, [[(5, [20 + d], 0)] if other == d else [] for other in range(4)])

    def test_can_work_returns_true_or_false_and_changes_nothing(self):
        self.made()
        self.fill(0, [1, 2], 3)
        self.devices[1].writing.write([4])
        before = self.seen()
        owners = list(self.owners)
        self.assertEqual([self.can(job) for job in range(6)], [True, True, False, False, True, True])
        for job in range(6):
            self.assertIn(self.can(job), (True, False))
            self.assertIs(type(self.can(job)), bool)
        self.assertEqual([self.seen(), self.owners], [before, owners])


class DeliverTest(JobCase):
    def test_no_filled_slot(self):
        self.made()
        self.assertIs(self.can(0), False)
        self.devices[0].receive_ring.arm(self.pool.acquire(0))
        self.assertIs(self.can(0), False)
        self.devices[0].receive_ring.add(1)
        self.assertIs(self.can(0), False)
        self.devices[0].receive_ring.close(0)
        self.assertIs(self.can(0), True)

    def test_a_filled_slot_of_the_transmit_ring_does_not_count(self):
        self.made()
        self.devices[0].writing.write([1])
        self.perform(2)
        self.assertEqual([self.can(0), self.can(3)], [False, False])

    def test_the_room_in_the_read_stream(self):
        for many in (1, 2, 4):
            for held in (0, 16 - many - 1, 16 - many, 16 - many + 1, 16):
                self.made()
                self.fill(0, list(range(many)), 0)
                self.devices[0].reading.append([7] * held)
                before = self.seen()
                self.assertIs(self.can(0), held + many <= 16, (many, held))
                self.assertEqual(self.seen(), before)

    def test_a_slot_without_bytes_fits_into_a_full_stream(self):
        self.made()
        self.fill(0, [], 6)
        self.devices[0].reading.append([7] * 16)
        self.assertIs(self.can(0), True)
        self.assertEqual(self.perform(0), ("delivered", 0, 0, 6))
        self.assertEqual(self.devices[0].reading.contents(), [7] * 16 + [("lost", 6)])

    def test_a_mark_needs_no_room(self):
        self.made()
        self.fill(0, [1, 2], 50)
        self.devices[0].reading.append([7] * 14)
        self.assertIs(self.can(0), True)
        self.assertEqual(self.perform(0), ("delivered", 0, 2, 50))
        self.assertEqual(self.devices[0].reading.contents(), [7] * 14 + [1, 2, ("lost", 50)])

    def test_only_the_oldest_slot_is_asked_for(self):
        self.made()
        self.fill(0, [1, 2, 3], 0)
        self.fill(0, [4], 0)
        self.devices[0].reading.append([7] * 14)
        self.assertIs(self.can(0), False)
        self.devices[0].reading.read(1)
        self.assertIs(self.can(0), True)

    def test_it_needs_no_free_buffer(self):
        self.made()
        self.fill(0, [1], 0)
        self.leave_free(0)
        self.assertIs(self.can(0), True)

    def test_a_step_without_lost_bytes(self):
        self.made()
        self.fill(0, [0, 255, 3], 0)
        self.fill(0, [4], 2)
        self.assertEqual(self.perform(0), ("delivered", 0, 3, 0))
        self.assertEqual(self.devices[0].reading.contents(), [0, 255, 3])
        self.assertEqual(self.devices[0].receive_ring.filled_slots(), [(1, [4], 2)])
        self.assertEqual([self.pool.free(), self.pool.owner(0), self.pool.held(0)], [7, None, [1]])

    def test_a_step_with_lost_bytes(self):
        for lost in (1, 2, 300):
            self.made()
            self.fill(0, [1, 2], lost)
            self.assertEqual(self.perform(0), ("delivered", 0, 2, lost))
            self.assertEqual(self.devices[0].reading.contents(), [1, 2, ("lost", lost)])
            self.assertEqual([self.devices[0].receive_ring.buffers(), self.pool.free()], [[], 8])

    def test_a_mark_meets_a_mark_in_the_read_stream(self):
        self.made()
        self.devices[0].reading.append([9, ("lost", 2)])
        self.fill(0, [], 3)
        self.assertEqual(self.devices[0].inbound(), [9, ("lost", 2), ("lost", 3)])
        self.assertEqual(self.perform(0), ("delivered", 0, 0, 3))
        self.assertEqual(self.devices[0].reading.contents(), [9, ("lost", 5)])

    def test_a_byte_keeps_two_marks_apart(self):
        self.made()
        self.devices[0].reading.append([("lost", 2)])
        self.fill(0, [1], 3)
        self.perform(0)
        self.assertEqual(self.devices[0].reading.contents(), [("lost", 2), 1, ("lost", 3)])

    def test_the_slot_is_empty_afterwards(self):
        self.made(slots=1)
        self.fill(0, [1], 0)
        self.assertIs(self.devices[0].receive_ring.can_arm(), False)
        self.perform(0)
        self.assertIs(self.devices[0].receive_ring.can_arm(), True)


class RefillTest(JobCase):
    def test_no_empty_slot(self):
        self.made(slots=1)
        self.assertIs(self.can(1), True)
        self.perform(1)
        self.assertEqual([self.can(1), self.can(4)], [False, True])
        self.devices[0].receive_ring.add(1)
        self.devices[0].receive_ring.close(0)
        self.assertIs(self.can(1), False)
        self.perform(0)
        self.assertIs(self.can(1), True)

    def test_no_free_buffer(self):
        for free in (0, 1):
            self.made()
            self.leave_free(free)
            self.assertIs(self.can(1), free > 0)

    def test_the_first_buffer_needs_only_one_that_is_free(self):
        self.made(many=4, buffers=8)
        self.leave_free(1)
        self.assertEqual([self.can(1 + 3 * d) for d in range(4)], [True] * 4)

    def test_as_many_free_buffers_as_rings_without_one_and_one_more(self):
        for many in (1, 2, 4):
            for more in (-1, 0, 1, 2):
                self.made(many=many, buffers=16)
                self.perform(1)
                # Only the receive ring of the first device has a buffer.
                without = 2 * many - 1
                self.leave_free(without + more)
                self.assertIs(self.can(1), more >= 1, (many, more))

    def test_every_ring_without_a_buffer_counts(self):
        self.made(many=2)
        self.perform(1)
        for owner, wanted in ((1, 3), (2, 2), (3, 1)):
            self.pool.acquire(owner)
            taken = []
            while self.can(1):
                taken.append(self.pool.acquire(OTHERS))
            self.assertEqual(self.pool.free(), wanted - 1)
            for buffer in taken:
                self.pool.release(buffer)

    def test_the_given_owners_count_and_no_others(self):
        self.made(many=1, buffers=3)
        self.perform(1)
        self.assertIs(can_work(self.devices, self.pool, [0, 1], 1), True)
        self.assertIs(can_work(self.devices, self.pool, [0, 1, 2], 1), False)
        self.assertIs(can_work(self.devices, self.pool, [0, 1, 2, 3], 1), False)

    def test_a_step(self):
        self.made(many=2, slots=3)
        self.assertEqual([self.perform(4), self.perform(1), self.perform(4)],
                         [("armed", 1, 0), ("armed", 0, 1), ("armed", 1, 2)])
        first, second = self.devices
        self.assertEqual([first.receive_ring.buffers(), second.receive_ring.buffers()], [[1], [0, 2]])
        self.assertEqual([first.transmit_ring.buffers(), second.transmit_ring.buffers()], [[], []])
        self.assertEqual([self.pool.held(0), self.pool.held(2), self.pool.free()], [[1], [0, 2], 5])
        self.assertEqual([second.receive_ring.open_slot(), second.receive_ring.open_count()], [0, 0])

    def test_the_buffer_that_has_been_free_for_the_longest_time(self):
        self.made()
        self.pool.acquire(OTHERS)
        self.pool.release(0)
        self.assertEqual(self.perform(1), ("armed", 0, 1))


class StageTest(JobCase):
    def test_an_empty_write_stream(self):
        self.made()
        self.assertIs(self.can(2), False)
        self.devices[0].writing.write([0])
        self.assertEqual([self.can(2), self.can(5)], [True, False])
        self.perform(2)
        self.assertIs(self.can(2), False)

    def test_no_empty_slot(self):
        self.made(slots=1)
        self.devices[0].writing.write([1] * 9)
        self.perform(2)
        self.assertIs(self.can(2), False)
        for _ in range(4):
            self.assertIs(self.can(2), False)
            self.devices[0].sender.step()
        self.assertIs(self.can(2), True)

    def test_no_free_buffer(self):
        for free in (0, 1):
            self.made()
            self.devices[0].writing.write([1])
            self.leave_free(free)
            self.assertIs(self.can(2), free > 0)

    def test_as_many_free_buffers_as_rings_without_one_and_one_more(self):
        for many in (1, 2, 4):
            for more in (-1, 0, 1, 2):
                self.made(many=many, buffers=16)
                self.devices[0].writing.write([1] * 8)
                self.perform(2)
                # Only the transmit ring of the first device has a buffer.
                without = 2 * many - 1
                self.leave_free(without + more)
                self.assertIs(self.can(2), more >= 1, (many, more))

    def test_the_ring_of_the_other_direction_has_its_own_buffers(self):
        self.made(many=1, buffers=2)
        self.perform(1)
        self.devices[0].writing.write([1])
        self.assertEqual([self.can(1), self.can(2)], [False, True])
        self.assertEqual(self.perform(2), ("staged", 0, 1))
        self.assertEqual([self.pool.held(0), self.pool.held(1)], [[0], [1]])

    def test_fewer_bytes_than_the_size_as_many_and_more(self):
        for size in (1, 2, 16):
            for many in (1, size - 1, size, size + 1, 3 * size):
                if 1 <= many <= 16:
                    self.made(size=size)
                    data = [200 + at for at in range(many)]
                    self.devices[0].writing.write(data)
                    self.assertEqual(self.perform(2), ("staged", 0, min(many, size)))
                    self.assertEqual(self.devices[0].transmit_ring.filled_slots(), [(0, data[:size], 0)])
                    self.assertEqual(self.devices[0].writing.contents(), data[size:])
                    self.assertEqual([self.pool.held(1), self.pool.free()], [[0], 7])
                    self.assertEqual(self.devices[0].transmit_ring.open_slot(), None)

    def test_several_steps_keep_the_order(self):
        self.made(size=2, slots=3)
        self.devices[0].writing.write([1, 2, 3, 4, 5])
        found = [self.perform(2) for _ in range(3)]
        self.assertEqual(found, [("staged", 0, 2), ("staged", 0, 2), ("staged", 0, 1)])
        self.assertEqual(self.devices[0].transmit_ring.filled_slots(), [(0, [1, 2], 0), (1, [3, 4], 0), (2, [5], 0)])
        self.assertEqual(self.devices[0].outbound(), [1, 2, 3, 4, 5])


if __name__ == "__main__":
    unittest.main()
