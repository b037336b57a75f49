"""Lines: points 5.1 and 5.4."""

import unittest
from itertools import product

from tickrings.lines import Lines, wakes
from tickrings.queues import ReceiveQueue


class WakesTest(unittest.TestCase):
    def test_one_below_at_and_above_count(self):
        for count in (2, 3, 16):
            found = [wakes(held, 9, 9, count, 5) for held in (count - 1, count, count + 1)]
            self.assertEqual(found, [False, True, True])
        self.assertIs(wakes(1, 9, 9, 1, 32), True)

    def test_one_tick_before_at_and_after_wait(self):
        for wait in (1, 2, 5, 32):
            for oldest in (0, 4, 100):
                found = [wakes(1, oldest, oldest + wait + more, 2, wait) for more in (-1, 0, 1)]
                self.assertEqual(found, [False, True, True])

    def test_an_empty_queue_never_wakes(self):
        for now, count, wait in product((0, 1, 9, 1000), (1, 2, 16), (1, 32)):
            self.assertIs(wakes(0, None, now, count, wait), False)

    def test_an_oldest_item_of_tick_0_counts(self):
        self.assertEqual([wakes(1, 0, now, 2, 3) for now in (0, 2, 3, 4)], [False, False, True, True])

    def test_a_queue_that_holds_no_byte_but_a_mark(self):
        queue = ReceiveQueue(1)
        queue.arrive(7, 4)
        queue.arrive(8, 6)
        queue.take()
        held, oldest = queue.bytes_held(), queue.oldest_tick()
        self.assertEqual((held, oldest), (0, 6))
        self.assertEqual([wakes(held, oldest, now, 1, 3) for now in (6, 8, 9, 10)],
                         [False, False, True, True])

    def test_either_condition_is_enough(self):
        found = {(held, now): wakes(held, 5, now, 3, 4) for held in (1, 2, 3, 4) for now in (8, 9)}
        self.assertEqual([pair for pair, woken in found.items() if not woken], [(1, 8), (2, 8)])

    def test_the_answer_is_true_or_false(self):
        for values in ((0, None, 9, 1, 1), (0, 9, 9, 1, 1), (1, 9, 9, 1, 1), (1, 0, 9, 2, 1)):
            self.assertIsInstance(wakes(*values), bool)

    def test_the_example_of_the_document(self):
        found = [wakes(1, 4, 8, 2, 5), wakes(1, 4, 9, 2, 5), wakes(2, 9, 9, 2, 5), wakes(0, None, 9, 1, 1)]
        self.assertEqual(found, [False, True, True, False])


class LinesTest(unittest.TestCase):
    def seen(self, lines, many):
        return [[lines.is_pending(line) for line in range(many)],
                [lines.is_masked(line) for line in range(many)], lines.candidates()]

    def test_new_lines_are_neither_pending_nor_masked(self):
        for many in (1, 2, 8):
            self.assertEqual(self.seen(Lines(many), many), [[False] * many, [False] * many, []])

    def test_every_combination_of_pending_and_masked(self):
        for states in product(product((True, False), repeat=2), repeat=4):
            lines = Lines(4)
            for line, (pending, masked) in enumerate(states):
                if pending:
                    lines.raise_line(line)
                if masked:
                    lines.mask(line)
            wanted = [line for line, state in enumerate(states) if state == (True, False)]
            self.assertEqual(self.seen(lines, 4), [[state[0] for state in states],
                                                   [state[1] for state in states], wanted])

    def test_pending_and_masked_do_not_depend_on_each_other(self):
        for calls in product(("raise_line", "clear_line", "mask", "unmask"), repeat=5):
            lines, pending, masked = Lines(3), False, False
            for call in calls:
                self.assertIsNone(getattr(lines, call)(1))
                pending = {"raise_line": True, "clear_line": False}.get(call, pending)
                masked = {"mask": True, "unmask": False}.get(call, masked)
                self.assertEqual(self.seen(lines, 3), [[False, pending, False], [False, masked, False],
                                                       [1] if pending and not masked else []])

    def test_raised_or_masked_twice(self):
        lines = Lines(2)
        lines.raise_line(1)
        lines.raise_line(1)
        lines.mask(1)
        lines.mask(1)
        self.assertEqual(self.seen(lines, 2), [[False, True], [False, True], []])
        lines.unmask(1)
        self.assertEqual(self.seen(lines, 2), [[False, True], [False, False], [1]])
        lines.clear_line(1)
        self.assertEqual(self.seen(lines, 2), [[False, False], [False, False], []])

    def test_cleared_or_unmasked_when_they_were_not(self):
        lines = Lines(2)
        lines.clear_line(0)
        lines.unmask(0)
        lines.clear_line(0)
        lines.unmask(0)
        self.assertEqual(self.seen(lines, 2), [[False, False], [False, False], []])
        lines.raise_line(0)
        self.assertEqual(lines.candidates(), [0])

    def test_candidates_are_ascending_whatever_the_order_of_raising(self):
        for order in ([7, 0, 3, 5], [5, 3, 0, 7], [0, 3, 5, 7]):
            lines = Lines(8)
            for line in order:
                lines.raise_line(line)
            self.assertEqual(lines.candidates(), [0, 3, 5, 7])
        lines.mask(3)
        lines.mask(4)
        self.assertEqual(lines.candidates(), [0, 5, 7])
        lines.clear_line(0)
        lines.unmask(3)
        self.assertEqual(lines.candidates(), [3, 5, 7])

    def test_a_returned_list_is_a_new_one(self):
        lines = Lines(3)
        lines.raise_line(0)
        lines.raise_line(2)
        listed = lines.candidates()
        listed.append(1)
        listed.remove(0)
        self.assertEqual(self.seen(lines, 3), [[True, False, True], [False] * 3, [0, 2]])

    def test_objects_do_not_share_their_lines(self):
        first, second = Lines(2), Lines(2)
        first.raise_line(0)
        first.mask(1)
        self.assertEqual(self.seen(second, 2), [[False, False], [False, False], []])

    def test_the_example_of_the_document(self):
        lines = Lines(4)
        lines.raise_line(3)
        lines.raise_line(1)
        lines.mask(1)
        self.assertEqual([lines.candidates(), lines.is_pending(1)], [[3], True])


if __name__ == "__main__":
    unittest.main()
