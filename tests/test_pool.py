"""The pool of buffers: points 0.8, 3.1, 3.2 and 3.3."""

import unittest
from itertools import product

from tickrings.errors import PoolError, TickringsError
from tickrings.pool import Pool

SIZES = (1, 2, 5, 256)


class PoolCase(unittest.TestCase):
    def seen(self, pool, many, owners):
        return [pool.free(), [pool.owner(buffer) for buffer in range(many)],
                [pool.held(owner) for owner in owners]]

    def refused(self, buffer, pool, many, call, value):
        owners = (0, 1, 2, 7)
        before = self.seen(pool, many, owners)
        with self.assertRaises(PoolError) as caught:
            call(value)
        self.assertEqual(caught.exception.buffer, buffer)
        self.assertEqual(self.seen(pool, many, owners), before)

    def filled(self, many, owner):
        pool = Pool(many)
        for _ in range(many):
            pool.acquire(owner)
        return pool

    def with_counts(self, free, counts):
        """A pool in which owner k has counts[k] buffers and some are free."""
        pool = Pool(free + sum(counts))
        for owner, count in enumerate(counts):
            for _ in range(count):
                pool.acquire(owner)
        return pool


class OrderTest(PoolCase):
    def test_a_new_pool_is_free(self):
        for many in SIZES:
            pool = Pool(many)
            self.assertEqual(self.seen(pool, many, [0]), [many, [None] * many, [[]]])

    def test_buffers_are_acquired_in_the_order_of_their_numbers_at_first(self):
        for many in SIZES:
            pool = Pool(many)
            for buffer in range(many):
                self.assertEqual(pool.acquire(3), buffer)
                self.assertEqual(pool.free(), many - buffer - 1)
                self.assertEqual(pool.owner(buffer), 3)
            self.assertEqual(pool.held(3), list(range(many)))

    def test_the_buffer_that_has_been_free_for_the_longest_time_is_acquired_first(self):
        pool = self.filled(5, 0)
        for buffer in (3, 0, 4, 1, 2):
            pool.release(buffer)
        self.assertEqual([pool.acquire(1) for _ in range(5)], [3, 0, 4, 1, 2])

    def test_a_released_buffer_comes_behind_those_that_were_never_acquired(self):
        pool = Pool(4)
        self.assertEqual([pool.acquire(1), pool.acquire(1)], [0, 1])
        pool.release(1)
        pool.release(0)
        self.assertEqual([pool.acquire(1) for _ in range(4)], [2, 3, 1, 0])

    def test_the_order_holds_in_a_large_pool_gone_round_twice(self):
        pool = self.filled(256, 0)
        for step in (7, 101):
            order = [(at * step) % 256 for at in range(256)]
            for buffer in order:
                pool.release(buffer)
            self.assertEqual(pool.free(), 256)
            self.assertEqual([pool.acquire(1) for _ in range(256)], order)

    def test_every_short_run_agrees_with_a_list_of_free_buffers(self):
        for plan in product((None, 0, 1, 2), repeat=6):
            pool, free = Pool(3), [0, 1, 2]
            for release in plan:
                if release is None and free:
                    self.assertEqual(pool.acquire(4), free.pop(0))
                elif release is None:
                    self.refused(-1, pool, 3, pool.acquire, 4)
                elif release in free:
                    self.refused(release, pool, 3, pool.release, release)
                else:
                    self.assertIsNone(pool.release(release))
                    free.append(release)
                self.assertEqual(pool.free(), len(free))
                self.assertEqual(pool.held(4), [each for each in range(3) if each not in free])

    def test_a_pool_of_one_buffer(self):
        pool = Pool(1)
        for owner in (5, 6, 5):
            self.assertEqual(pool.acquire(owner), 0)
            self.assertEqual([pool.owner(0), pool.free()], [owner, 0])
            pool.release(0)
            self.assertEqual([pool.owner(0), pool.free()], [None, 1])


class OwnerTest(PoolCase):
    def test_each_buffer_has_its_own_owner(self):
        pool = Pool(5)
        for owner in (2, 0, 2, 7):
            pool.acquire(owner)
        self.assertEqual([pool.owner(buffer) for buffer in range(5)], [2, 0, 2, 7, None])
        self.assertEqual([pool.held(2), pool.held(0), pool.held(7), pool.held(1)], [[0, 2], [1], [3], []])

    def test_the_owner_0_is_an_owner(self):
        pool = Pool(2)
        pool.acquire(0)
        self.assertEqual([pool.owner(0), pool.owner(1), pool.held(0)], [0, None, [0]])
        pool.release(0)
        self.assertEqual([pool.owner(0), pool.free()], [None, 2])

    def test_held_is_ascending_whatever_the_order_of_acquiring(self):
        pool = self.filled(4, 9)
        for buffer in (3, 1, 0, 2):
            pool.release(buffer)
        for _ in range(3):
            pool.acquire(6)
        self.assertEqual([pool.held(6), pool.held(9)], [[0, 1, 3], []])

    def test_a_buffer_that_does_not_exist_has_no_owner(self):
        pool = self.filled(3, 1)
        self.assertEqual([pool.owner(-1), pool.owner(3)], [None, None])

    def test_a_released_buffer_goes_to_its_next_owner(self):
        pool = self.filled(2, 1)
        pool.release(1)
        pool.acquire(8)
        self.assertEqual([pool.held(1), pool.held(8)], [[0], [1]])

    def test_a_returned_list_is_a_new_one(self):
        pool = self.filled(3, 1)
        held = pool.held(1)
        held.append(9)
        held[0] = 7
        self.assertEqual([pool.held(1), pool.free()], [[0, 1, 2], 0])

    def test_pools_do_not_share_their_buffers(self):
        first, second = Pool(2), Pool(2)
        first.acquire(1)
        self.assertEqual(self.seen(second, 2, [1]), [2, [None, None], [[]]])


class RefusalTest(PoolCase):
    def test_acquiring_when_none_is_free(self):
        for many in SIZES:
            pool = self.filled(many, 1)
            self.refused(-1, pool, many, pool.acquire, 1)
            self.refused(-1, pool, many, pool.acquire, 2)
            pool.release(0)
            self.assertEqual(pool.acquire(2), 0)
            self.refused(-1, pool, many, pool.acquire, 2)

    def test_releasing_a_buffer_that_does_not_exist(self):
        for many in SIZES:
            for pool in (Pool(many), self.filled(many, 1)):
                for buffer in (-1, -many, many, many + 1):
                    self.refused(buffer, pool, many, pool.release, buffer)

    def test_releasing_a_free_buffer(self):
        for many in SIZES:
            pool = Pool(many)
            for buffer in (0, many - 1):
                self.refused(buffer, pool, many, pool.release, buffer)

    def test_releasing_a_buffer_twice(self):
        for many in SIZES:
            pool = self.filled(many, 1)
            for buffer in (many - 1, 0)[:many]:
                pool.release(buffer)
                self.refused(buffer, pool, many, pool.release, buffer)

    def test_a_refused_release_leaves_the_order_of_the_free_ones(self):
        pool = self.filled(3, 1)
        pool.release(2)
        pool.release(0)
        for buffer in (2, 0, -1, 3):
            self.refused(buffer, pool, 3, pool.release, buffer)
        self.assertEqual([pool.acquire(1), pool.acquire(1), pool.free()], [2, 0, 0])

    def test_the_error_is_one_of_the_program(self):
        with self.assertRaises(TickringsError):
            Pool(1).release(0)


class MayAcquireTest(PoolCase):
    def test_an_owner_without_a_buffer_may_take_any_free_one(self):
        for free in (1, 2, 5):
            pool = self.with_counts(free, [0, 0, 3, 0])
            self.assertIs(pool.may_acquire(0, [0, 1, 2, 3]), True)

    def test_nobody_may_when_none_is_free(self):
        pool = self.filled(3, 1)
        for owner in (0, 1):
            for owners in ([0, 1], [1], [0]):
                self.assertIs(pool.may_acquire(owner, owners), False)

    def test_a_single_owner_with_buffers_may_take_the_last_one(self):
        pool = Pool(3)
        for _ in range(3):
            self.assertIs(pool.may_acquire(4, [4]), True)
            pool.acquire(4)
        self.assertIs(pool.may_acquire(4, [4]), False)

    def test_an_owner_that_has_some_leaves_one_for_each_without(self):
        for without in range(5):
            for some in (1, 2):
                counts = [some] + [0] * without
                owners = list(range(len(counts)))
                just, fewer = without + 1, without
                self.assertIs(self.with_counts(just, counts).may_acquire(0, owners), True)
                self.assertIs(self.with_counts(fewer, counts).may_acquire(0, owners), False)

    def test_owners_that_have_buffers_need_none(self):
        pool = self.with_counts(2, [1, 3, 0, 2])
        owners = [0, 1, 2, 3]
        self.assertEqual([pool.may_acquire(owner, owners) for owner in owners], [True] * 4)
        pool.acquire(1)
        self.assertEqual([pool.may_acquire(owner, owners) for owner in owners],
                         [False, False, True, False])

    def test_only_the_given_owners_count(self):
        pool = self.with_counts(1, [1, 0, 0])
        self.assertEqual([pool.may_acquire(0, owners) for owners in ([0], [0, 1], [0, 1, 2], [])],
                         [True, False, False, True])

    def test_the_order_of_the_owners_does_not_matter(self):
        pool = self.with_counts(2, [1, 0, 1, 0])
        for owners in ([0, 1, 2, 3], [3, 2, 1, 0], [1, 3, 0, 2]):
            self.assertIs(pool.may_acquire(0, owners), False)
            self.assertIs(pool.may_acquire(3, owners), True)

    def test_every_small_case_agrees_with_the_document(self):
        owners = [0, 1, 2]
        for free, *counts in product(range(5), range(3), range(3), range(3)):
            if free + sum(counts) == 0:
                continue
            pool = self.with_counts(free, counts)
            for owner in owners:
                wanted = free >= 1 and (counts[owner] == 0 or free - 1 >= counts.count(0))
                self.assertIs(pool.may_acquire(owner, owners), wanted, (free, counts, owner))

    def test_the_question_changes_nothing(self):
        pool = self.with_counts(3, [1, 0])
        before = self.seen(pool, 4, [0, 1])
        owners = [0, 1]
        pool.may_acquire(0, owners)
        pool.may_acquire(1, owners)
        self.assertEqual([self.seen(pool, 4, [0, 1]), owners], [before, [0, 1]])
        self.assertEqual(pool.acquire(1), 1)

    def test_the_given_list_is_not_kept(self):
        pool = self.with_counts(1, [1, 0])
        owners = [0, 1]
        self.assertIs(pool.may_acquire(0, owners), False)
        owners.remove(1)
        self.assertIs(pool.may_acquire(0, [0, 1]), False)
        self.assertIs(pool.may_acquire(0, owners), True)


class PromiseTest(PoolCase):
    """If all keep to may_acquire, an owner without a buffer always finds a free one."""

    def follow(self, many, owners, choices):
        pool = Pool(many)
        for number in choices:
            owner, releases = owners[number // 2 % len(owners)], number % 2
            if releases and pool.held(owner):
                pool.release(pool.held(owner)[number % len(pool.held(owner))])
            elif pool.may_acquire(owner, owners):
                pool.acquire(owner)
            for each in owners:
                if not pool.held(each):
                    self.assertIs(pool.may_acquire(each, owners), True)
            without = [each for each in owners if not pool.held(each)]
            self.assertGreaterEqual(pool.free(), len(without))

    def test_every_short_run_with_as_many_buffers_as_owners_and_one_more(self):
        for many in (2, 3):
            for choices in product(range(4), repeat=6):
                self.follow(many, [0, 1], choices)

    def test_long_runs(self):
        for many, owners in ((1, [0]), (4, [0, 1, 2, 3]), (5, [3, 1, 0, 2]), (16, list(range(8)))):
            number, choices = 1, []
            for _ in range(600):
                number = number * 1103515245 % 2147483648 + 12345
                choices.append(number // 65536)
            self.follow(many, owners, choices)


class ExampleTest(unittest.TestCase):
    def test_the_example_of_the_document(self):
        pool = Pool(3)
        self.assertEqual([pool.acquire(5), pool.acquire(6), pool.may_acquire(5, [5, 6]),
                          pool.may_acquire(5, [5, 6, 7])], [0, 1, True, False])
        pool.release(0)
        self.assertEqual([pool.acquire(5), pool.held(5)], [2, [2]])


if __name__ == "__main__":
    unittest.main()
