"""Rings: points 2.1, 2.2 and 2.3."""

import unittest
from itertools import product

from tickrings.errors import RingError, TickringsError
from tickrings.rings import Ring

METHODS = ["held", "is_full", "put", "first", "take", "listed"]


class RingCase(unittest.TestCase):
    def seen(self, ring):
        return [ring.written, ring.taken, ring.held(), ring.is_full(), ring.listed()]

    def refused(self, held, ring, call, *values):
        before = self.seen(ring)
        with self.assertRaises(RingError) as caught:
            call(*values)
        self.assertEqual(caught.exception.held, held)
        self.assertEqual(self.seen(ring), before)

    def agrees(self, ring, cells, puts, takes):
        """Compare a ring with what the numbers of puts and takes so far ask for."""
        values = list(range(takes, puts))
        self.assertEqual(self.seen(ring), [puts % (2 * cells), takes % (2 * cells), len(values),
                                           len(values) == cells, values])
        if values:
            self.assertEqual(ring.first(), takes)


class RingTest(RingCase):
    def test_a_new_ring_is_empty(self):
        for cells in (1, 2, 3, 256):
            self.assertEqual(self.seen(Ring(cells)), [0, 0, 0, False, []])

    def test_filled_and_emptied_until_the_counters_have_gone_round(self):
        for cells in (1, 2, 3, 4, 7, 32, 256):
            ring, puts, takes = Ring(cells), 0, 0
            for _ in range(5):
                for _ in range(cells):
                    ring.put(puts)
                    puts += 1
                    self.agrees(ring, cells, puts, takes)
                self.refused(cells, ring, ring.put, puts)
                for _ in range(cells):
                    self.assertEqual(ring.take(), takes)
                    takes += 1
                    self.agrees(ring, cells, puts, takes)
                self.refused(0, ring, ring.take)
                self.refused(0, ring, ring.first)

    def test_every_order_of_puts_and_takes_in_small_rings(self):
        for cells in (1, 2, 3):
            for plan in product((True, False), repeat=9):
                self.follow(cells, plan)

    def follow(self, cells, plan):
        ring, puts, takes = Ring(cells), 0, 0
        for putting in plan:
            if putting and puts - takes == cells:
                self.refused(cells, ring, ring.put, puts)
            elif putting:
                ring.put(puts)
                puts += 1
            elif puts == takes:
                self.refused(0, ring, ring.take)
            else:
                self.assertEqual(ring.take(), takes)
                takes += 1
            self.agrees(ring, cells, puts, takes)

    def test_kept_full_while_the_counters_go_round(self):
        for cells in (1, 2, 5):
            ring = Ring(cells)
            for value in range(cells):
                ring.put(value)
            for takes in range(6 * cells):
                self.assertEqual(ring.take(), takes)
                ring.put(takes + cells)
                self.agrees(ring, cells, takes + cells + 1, takes + 1)

    def test_the_counters_start_again_at_twice_the_number_of_cells(self):
        ring = Ring(1)
        found = []
        for value in range(3):
            ring.put(value)
            found.append((ring.written, ring.taken))
            ring.take()
            found.append((ring.written, ring.taken))
        self.assertEqual(found, [(1, 0), (1, 1), (0, 1), (0, 0), (1, 0), (1, 1)])

    def test_first_changes_nothing(self):
        ring = Ring(2)
        ring.put(7)
        before = self.seen(ring)
        self.assertEqual([ring.first(), ring.first()], [7, 7])
        self.assertEqual(self.seen(ring), before)

    def test_is_full_is_true_or_false(self):
        ring = Ring(1)
        self.assertIs(ring.is_full(), False)
        ring.put(7)
        self.assertIs(ring.is_full(), True)

    def test_put_returns_nothing(self):
        self.assertIsNone(Ring(1).put(7))

    def test_values_of_every_kind_are_held(self):
        values = [0, None, False, "", (), ("lost", 2), b"a"]
        ring = Ring(len(values))
        for value in values:
            ring.put(value)
        self.assertEqual(ring.listed(), values)
        self.assertEqual([ring.take() for _ in values], values)

    def test_equal_values_are_held_apart(self):
        ring = Ring(3)
        for value in (5, 5, 6):
            ring.put(value)
        self.assertEqual([ring.take(), ring.listed()], [5, [5, 6]])

    def test_a_full_ring_refuses_with_its_number_of_cells(self):
        for cells in (1, 2, 256):
            ring = Ring(cells)
            for value in range(cells):
                ring.put(value)
            self.refused(cells, ring, ring.put, 99)
            self.refused(cells, ring, ring.put, None)
            self.assertEqual(ring.take(), 0)

    def test_an_empty_ring_refuses_with_0(self):
        for cells in (1, 2, 256):
            ring = Ring(cells)
            self.refused(0, ring, ring.take)
            self.refused(0, ring, ring.first)
            ring.put(4)
            ring.take()
            self.refused(0, ring, ring.take)
            self.refused(0, ring, ring.first)

    def test_the_error_is_one_of_the_program(self):
        with self.assertRaises(TickringsError):
            Ring(1).take()

    def test_a_returned_list_is_a_new_one(self):
        ring = Ring(3)
        ring.put(1)
        ring.put(2)
        listed = ring.listed()
        listed.append(3)
        listed[0] = 9
        self.assertEqual(self.seen(ring), [2, 0, 2, False, [1, 2]])
        listed.clear()
        self.assertEqual(ring.first(), 1)
        ring.put(3)
        self.assertEqual(listed, [])

    def test_rings_do_not_share_their_cells(self):
        first, second = Ring(2), Ring(2)
        first.put(1)
        self.assertEqual(self.seen(second), [0, 0, 0, False, []])

    def test_a_size_beyond_the_limit_raises_no_error_of_its_own(self):
        ring = Ring(300)
        for value in range(300):
            ring.put(value)
        self.refused(300, ring, ring.put, 0)
        ring = Ring(0)
        self.refused(0, ring, ring.put, 0)
        self.refused(0, ring, ring.take)
        self.assertEqual(ring.listed(), [])

    def test_the_example_of_the_document(self):
        ring = Ring(2)
        ring.put(7)
        ring.put(8)
        self.assertEqual([ring.take(), ring.held(), ring.written, ring.taken], [7, 1, 2, 1])
        ring.put(9)
        self.assertEqual(ring.listed(), [8, 9])

    def test_the_methods_stand_in_the_class_itself(self):
        self.assertEqual(Ring.__module__, "tickrings.rings")
        for name in METHODS:
            self.assertIn(name, vars(Ring))


if __name__ == "__main__":
    unittest.main()
