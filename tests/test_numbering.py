"""The numbers of lines, rings, jobs and budgets: points 0.4, 8.1, 9.3 and 12.1."""

import unittest

from tickrings import numbering
from tickrings.config import Config, Settings


class NumberingTest(unittest.TestCase):
    def test_lines_and_rings(self):
        for d in range(4):
            self.assertEqual([numbering.receive_number(d), numbering.transmit_number(d)], [2 * d, 2 * d + 1])
            for line, receive in ((2 * d, True), (2 * d + 1, False)):
                self.assertEqual(numbering.device_of_line(line), d)
                self.assertIs(numbering.is_receive(line), receive)

    def test_jobs(self):
        kinds = (numbering.DELIVER, numbering.REFILL, numbering.STAGE)
        self.assertEqual(len(set(kinds)), 3)
        for job in range(12):
            self.assertEqual(numbering.device_of_job(job), job // 3)
            self.assertEqual(numbering.kind_of_job(job), kinds[job % 3])

    def test_all_of_so_many_devices(self):
        for many in range(1, 5):
            self.assertEqual(numbering.all_numbers(many), list(range(2 * many)))
            self.assertEqual(numbering.all_jobs(many), list(range(3 * many)))
            self.assertEqual(numbering.job_budget(many), 2 * many)

    def test_the_amounts_of_the_budgets(self):
        devices = [Settings(receive=2, transmit=3), Settings(receive=4, transmit=5)]
        config = Config(devices=devices, period=20, jobs=6)
        found = numbering.budget_amounts(config)
        self.assertEqual(found, [2, 3, 4, 5, 6])
        self.assertEqual(found[numbering.job_budget(2)], 6)
        found.clear()
        self.assertEqual(numbering.budget_amounts(config), [2, 3, 4, 5, 6])


if __name__ == "__main__":
    unittest.main()
