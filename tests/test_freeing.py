"""Promise 11.1, and what 0.3 says of it."""

import unittest

from latebells.freeing import first_free, most_at_once, shared_by

FAR = 10 ** 30


class FirstFree(unittest.TestCase):
    def test_without_any_spells(self):
        for rows in ([], [[]], [[], [], []]):
            self.assertEqual(first_free(rows, 1, 0), 0)
            self.assertEqual(first_free(rows, 50, 7), 7)

    def test_ahead_of_all(self):
        rows = [[(10, 20)]]
        self.assertEqual(first_free(rows, 10, 0), 0)
        self.assertEqual(first_free(rows, 11, 0), 20)
        self.assertEqual(first_free(rows, 3, 7), 7)
        self.assertEqual(first_free(rows, 4, 7), 20)

    def test_a_start_within_a_spell_and_at_its_borders(self):
        rows = [[(10, 20)]]
        told = {9: 9, 10: 20, 11: 20, 19: 20, 20: 20, 21: 21}
        for start, moment in told.items():
            self.assertEqual(first_free(rows, 1, start), moment)

    def test_a_gap_just_as_long_as_asked_and_one_moment_shorter(self):
        rows = [[(0, 5), (8, 10), (14, 20)]]
        self.assertEqual(first_free(rows, 3, 0), 5)
        self.assertEqual(first_free(rows, 4, 0), 10)
        self.assertEqual(first_free(rows, 5, 0), 20)
        self.assertEqual(first_free(rows, 1, 0), 5)
        self.assertEqual(first_free(rows, 2, 6), 6)
        self.assertEqual(first_free(rows, 3, 6), 10)

    def test_over_several_rows(self):
        rows = [[(0, 5), (20, 30)], [(4, 9)], [], [(9, 12), (16, 18)]]
        self.assertEqual(first_free(rows, 1, 0), 12)
        self.assertEqual(first_free(rows, 4, 0), 12)
        self.assertEqual(first_free(rows, 5, 0), 30)
        self.assertEqual(first_free(rows, 2, 13), 13)
        self.assertEqual(first_free(rows, 2, 15), 18)
        self.assertEqual(first_free(rows, 3, 15), 30)

    def test_the_longest_spell_is_not_the_last_one(self):
        self.assertEqual(first_free([[(0, 100)], [(5, 6)], [(40, 50)]], 1, 3), 100)

    def test_behind_all(self):
        self.assertEqual(first_free([[(0, 5)]], 1000, 3), 5)
        self.assertEqual(first_free([[(0, 5)]], 1000, FAR), FAR)
        self.assertEqual(first_free([[(0, FAR)]], FAR, 1), FAR)


class MostAtOnce(unittest.TestCase):
    def test_where_there_is_none(self):
        for rows in ([], [[]], [[], []]):
            self.assertIsNone(most_at_once(rows))

    def test_one(self):
        self.assertEqual(most_at_once([[(5, 9), (20, 30)]]), (1, 5))
        self.assertEqual(most_at_once([[(0, 1)]]), (1, 0))
        self.assertEqual(most_at_once([[(7, 9)], [], [(3, 4)]]), (1, 3))

    def test_several(self):
        self.assertEqual(most_at_once([[(0, 10)], [(5, 15)], [(8, 9)]]), (3, 8))
        self.assertEqual(most_at_once([[(0, 10)], [(5, 15)], [(10, 20)]]), (2, 5))
        self.assertEqual(most_at_once([[(4, 6)], [(4, 6)], [(4, 6)]]), (3, 4))

    def test_the_first_of_several_such_moments(self):
        self.assertEqual(most_at_once([[(0, 10), (20, 30)], [(22, 25), (40, 50)], [(5, 6)]]), (2, 5))

    def test_such_as_only_touch(self):
        self.assertEqual(most_at_once([[(0, 5)], [(5, 9)]]), (1, 0))
        self.assertEqual(most_at_once([[(5, 9)], [(0, 5)], [(4, 5)]]), (2, 4))


class SharedBy(unittest.TestCase):
    def test_by_one_two_and_three(self):
        rows = [[(0, 10), (20, 30)], [(5, 15), (25, 28)], [(8, 26)]]
        self.assertEqual(shared_by(rows, 1), [(0, 30)])
        self.assertEqual(shared_by(rows, 2), [(5, 15), (20, 28)])
        self.assertEqual(shared_by(rows, 3), [(8, 10), (25, 26)])

    def test_by_more_than_there_are(self):
        rows = [[(0, 10)], [(0, 10)]]
        self.assertEqual(shared_by(rows, 2), [(0, 10)])
        self.assertEqual(shared_by(rows, 3), [])
        self.assertEqual(shared_by(rows, 100), [])
        self.assertEqual(shared_by([], 1), [])
        self.assertEqual(shared_by([[], []], 1), [])

    def test_such_as_touch_are_put_together(self):
        self.assertEqual(shared_by([[(0, 5)], [(5, 9)]], 1), [(0, 9)])
        self.assertEqual(shared_by([[(0, 5)], [(5, 9)]], 2), [])
        self.assertEqual(shared_by([[(0, 20)], [(0, 5)], [(5, 9)]], 2), [(0, 9)])
        self.assertEqual(shared_by([[(0, 5)], [(6, 9)]], 1), [(0, 5), (6, 9)])


class Lists(unittest.TestCase):
    def test_what_is_handed_in_is_not_changed(self):
        rows = [[(8, 10), (20, 30)], [], [(5, 15)]]
        first_free(rows, 3, 0)
        most_at_once(rows)
        shared_by(rows, 1).append((100, 101))
        self.assertEqual(rows, [[(8, 10), (20, 30)], [], [(5, 15)]])

    def test_told_lists_are_new_ones(self):
        rows = [[(5, 9)]]
        shared_by(rows, 1).clear()
        self.assertEqual(shared_by(rows, 1), [(5, 9)])
        self.assertEqual(rows, [[(5, 9)]])


if __name__ == "__main__":
    unittest.main()
