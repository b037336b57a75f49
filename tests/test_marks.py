"""Items: points 0.2 and 12.2."""

import unittest

from tickrings.marks import bytes_among, is_mark, joined, lost_by, lost_mark, with_mark


class MarksTest(unittest.TestCase):
    def test_a_mark(self):
        self.assertEqual([lost_mark(1), lost_mark(300)], [("lost", 1), ("lost", 300)])
        self.assertEqual([lost_by(("lost", 5)), joined(("lost", 5), ("lost", 2))], [5, ("lost", 7)])
        self.assertEqual([is_mark(item) for item in (0, 255, ("lost", 1))], [False, False, True])

    def test_the_number_of_the_bytes(self):
        self.assertEqual([bytes_among([]), bytes_among([("lost", 9)]), bytes_among([0, ("lost", 9), 1, 1])], [0, 0, 3])

    def test_bytes_and_the_mark_behind_them(self):
        self.assertEqual([with_mark([], 0), with_mark([1, 2], 0)], [[], [1, 2]])
        self.assertEqual([with_mark([], 3), with_mark([1, 2], 1)], [[("lost", 3)], [1, 2, ("lost", 1)]])

    def test_the_list_is_a_new_one(self):
        for lost in (0, 1):
            data = [1, 2]
            with_mark(data, lost).clear()
            self.assertEqual(data, [1, 2])


if __name__ == "__main__":
    unittest.main()
