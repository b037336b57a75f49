"""Budgets: points 0.2 and 8.1."""

import unittest

from tickrings.budgets import Budgets
from tickrings.errors import BudgetError, TickringsError

AMOUNTS = ([1], [5], [1, 2, 3], [3, 1, 4, 1, 5, 9, 2, 6, 50])


class BudgetsTest(unittest.TestCase):
    def seen(self, budgets, many):
        return [budgets.left(which) for which in range(many)]

    def refused(self, budgets, many, which):
        before = self.seen(budgets, many)
        with self.assertRaises(BudgetError) as caught:
            budgets.charge(which)
        self.assertEqual(caught.exception.which, which)
        self.assertEqual(self.seen(budgets, many), before)

    def test_all_are_full_at_the_start(self):
        for amounts in AMOUNTS:
            self.assertEqual(self.seen(Budgets(amounts), len(amounts)), amounts)

    def test_each_is_charged_until_nothing_is_left_and_once_more(self):
        for amounts in AMOUNTS:
            for which, amount in enumerate(amounts):
                budgets, wanted = Budgets(amounts), list(amounts)
                for _ in range(amount):
                    self.assertIsNone(budgets.charge(which))
                    wanted[which] -= 1
                    self.assertEqual(self.seen(budgets, len(amounts)), wanted)
                self.refused(budgets, len(amounts), which)
                self.refused(budgets, len(amounts), which)

    def test_all_are_used_up_one_after_the_other(self):
        for amounts in AMOUNTS:
            budgets = Budgets(amounts)
            for which, amount in enumerate(amounts):
                for _ in range(amount):
                    budgets.charge(which)
            self.assertEqual(self.seen(budgets, len(amounts)), [0] * len(amounts))
            for which in range(len(amounts)):
                self.refused(budgets, len(amounts), which)

    def test_refill_makes_all_full(self):
        for amounts in AMOUNTS:
            budgets = Budgets(amounts)
            for _ in range(3):
                for which, amount in enumerate(amounts):
                    for _ in range(amount - which % 2):
                        budgets.charge(which)
                self.assertIsNone(budgets.refill())
                self.assertEqual(self.seen(budgets, len(amounts)), amounts)

    def test_refill_of_full_budgets_adds_nothing(self):
        budgets = Budgets([2, 1])
        budgets.refill()
        budgets.refill()
        self.assertEqual(self.seen(budgets, 2), [2, 1])

    def test_a_refused_charge_does_not_count_after_a_refill(self):
        budgets = Budgets([2, 1])
        budgets.charge(1)
        for _ in range(3):
            self.refused(budgets, 2, 1)
        budgets.refill()
        self.assertEqual(self.seen(budgets, 2), [2, 1])
        budgets.charge(1)
        self.refused(budgets, 2, 1)

    def test_the_list_of_the_amounts_is_neither_changed_nor_kept(self):
        amounts = [2, 3]
        budgets = Budgets(amounts)
        budgets.charge(0)
        budgets.refill()
        budgets.charge(1)
        self.assertEqual(amounts, [2, 3])
        amounts[0] = 9
        amounts.pop()
        self.assertEqual(self.seen(budgets, 2), [2, 2])
        budgets.refill()
        self.assertEqual(self.seen(budgets, 2), [2, 3])

    def test_objects_do_not_share_their_budgets(self):
        amounts = [2, 3]
        first, second = Budgets(amounts), Budgets(amounts)
        first.charge(0)
        self.assertEqual([self.seen(first, 2), self.seen(second, 2)], [[1, 3], [2, 3]])

    def test_the_error_is_one_of_the_program(self):
        budgets = Budgets([1])
        budgets.charge(0)
        with self.assertRaises(TickringsError):
            budgets.charge(0)

    def test_the_example_of_the_document(self):
        budgets = Budgets([2, 1])
        budgets.charge(0)
        self.assertEqual([budgets.left(0), budgets.left(1)], [1, 1])


if __name__ == "__main__":
    unittest.main()
