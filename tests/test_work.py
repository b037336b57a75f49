"""The choice of work: points 9.1, 9.2 and 9.3."""

import unittest
from itertools import product

from tickrings.work import choice

NO_JOBS = [False] * 3
ALL_JOBS = [True] * 3


class LineTest(unittest.TestCase):
    def test_a_line_that_could_run(self):
        self.assertEqual(choice([True], [False], [1], [True], 0, 0, NO_JOBS), ("line", 0))
        self.assertEqual(choice([True], [False], [9], [True], 5, 1, ALL_JOBS), ("line", 0))

    def test_each_of_the_four_conditions_missing_alone(self):
        rows = [([False], [False], [1], [True]), ([True], [True], [1], [True]),
                ([True], [False], [0], [True]), ([True], [False], [1], [False])]
        for row in rows:
            self.assertEqual(choice(*row, 0, 0, NO_JOBS), ("idle", -1), row)
            self.assertEqual(choice(*row, 1, 2, ALL_JOBS), ("job", 2), row)

    def test_every_combination_of_the_four_conditions_of_two_lines(self):
        for conditions in product(product((True, False), repeat=4), repeat=2):
            pending, masked, left, able = [list(row) for row in zip(*conditions)]
            fit = [line for line, row in enumerate(conditions) if row == (True, False, True, True)]
            found = choice(pending, masked, [3 if some else 0 for some in left], able, 0, 0, ALL_JOBS)
            self.assertEqual(found, ("line", fit[0]) if fit else ("idle", -1), conditions)

    def test_the_lowest_of_several_lines_that_could_run(self):
        for many in (2, 4, 8):
            for fit in product((True, False), repeat=many):
                wanted = ("line", fit.index(True)) if True in fit else ("job", 1)
                for missing in range(4):
                    rows = [[True] * many, [False] * many, [2] * many, [True] * many]
                    rows[missing] = [self.value(missing, each) for each in fit]
                    self.assertEqual(choice(*rows, 1, 1, ALL_JOBS), wanted)

    def value(self, missing, fit):
        """A part of a line's conditions that lets it run or not."""
        return [fit, not fit, 2 if fit else 0, fit][missing]

    def test_a_line_above_others_that_lack_different_conditions(self):
        pending, masked = [False, True, True, True, True], [False, True, False, False, False]
        left, able = [1, 1, 0, 1, 1], [True, True, True, False, True]
        self.assertEqual(choice(pending, masked, left, able, 4, 0, ALL_JOBS), ("line", 4))

    def test_the_job_budget_does_not_matter_for_a_line(self):
        for jobs_left in (0, 1, 50):
            found = choice([False, True], [False, False], [1, 1], [True, True], jobs_left, 0, ALL_JOBS)
            self.assertEqual(found, ("line", 1))


class JobTest(unittest.TestCase):
    def chosen(self, jobs_left, turn, able_jobs):
        return choice([False, True], [False, True], [1, 1], [True, True], jobs_left, turn, able_jobs)

    def test_the_first_able_job_from_the_turn_on_in_cyclic_order(self):
        for many in (3, 6):
            for able in product((True, False), repeat=many):
                for turn in range(many):
                    order = list(range(turn, many)) + list(range(turn))
                    fit = [job for job in order if able[job]]
                    wanted = ("job", fit[0]) if fit else ("idle", -1)
                    self.assertEqual(self.chosen(1, turn, list(able)), wanted)

    def test_the_order_goes_round(self):
        for many in (3, 6, 9, 12):
            for turn in range(many):
                for job in range(many):
                    able = [each == job for each in range(many)]
                    self.assertEqual(self.chosen(2, turn, able), ("job", job))

    def test_the_turn_comes_first(self):
        for turn in range(12):
            self.assertEqual(self.chosen(1, turn, [True] * 12), ("job", turn))

    def test_the_job_behind_the_turn_before_the_one_in_front_of_it(self):
        self.assertEqual(self.chosen(1, 1, [True, False, True]), ("job", 2))
        self.assertEqual(self.chosen(1, 2, [True, True, False]), ("job", 0))

    def test_no_job_budget_left(self):
        for turn in range(3):
            self.assertEqual(self.chosen(0, turn, ALL_JOBS), ("idle", -1))
            self.assertEqual(self.chosen(1, turn, ALL_JOBS), ("job", turn))

    def test_nothing_able_at_all(self):
        for many in (1, 2, 3, 4):
            found = choice([True] * 2 * many, [False] * 2 * many, [1] * 2 * many, [False] * 2 * many,
                           9, 3 * many - 1, [False] * 3 * many)
            self.assertEqual(found, ("idle", -1))


class ListsTest(unittest.TestCase):
    def test_the_lists_are_unchanged_afterwards(self):
        for jobs_left, able in ((1, [True, True]), (1, [False, False]), (0, [False, False])):
            given = [[True, True], [True, False], [1, 2], able, jobs_left, 2, [True, False, False]]
            before = [list(part) if isinstance(part, list) else part for part in given]
            choice(*given)
            self.assertEqual(given, before)

    def test_the_same_choice_again(self):
        given = [[True], [False], [1], [False], 2, 1, [True, False, True]]
        self.assertEqual([choice(*given), choice(*given)], [("job", 2)] * 2)

    def test_the_example_of_the_document(self):
        found = choice([True, True], [True, False], [1, 0], [True, True], 2, 2, [True, False, False])
        self.assertEqual(found, ("job", 0))


if __name__ == "__main__":
    unittest.main()
