"""Promises 5.1 and 5.2, and what 0.3 says of phases."""

import unittest

from latebells.rounds import left_of_phase, place_at, round_size, starts, time_in, when, whole_size

WORK = (("work", 25), ("rest", 5))
# Phases without size at the beginning, in the middle and at the end; "a" is there thrice.
MIXED = (("none", 0), ("a", 3), ("nil", 0), ("a", 0), ("b", 2), ("a", 4), ("end", 0))
EMPTY = (("a", 0), ("b", 0))


class Sizes(unittest.TestCase):
    def test_round_size(self):
        self.assertEqual(round_size(()), 0)
        self.assertEqual(round_size(EMPTY), 0)
        self.assertEqual(round_size((("a", 7),)), 7)
        self.assertEqual(round_size(WORK), 30)
        self.assertEqual(round_size(MIXED), 9)

    def test_whole_size(self):
        self.assertEqual(whole_size(WORK, 0), 0)
        self.assertEqual(whole_size(WORK, 1), 30)
        self.assertEqual(whole_size(WORK, 4), 120)
        self.assertEqual(whole_size((), 4), 0)
        self.assertEqual(whole_size(EMPTY, 4), 0)
        self.assertEqual(whole_size(WORK, 10 ** 30), 3 * 10 ** 31)


class Places(unittest.TestCase):
    def test_each_moment_of_two_rounds(self):
        told = [place_at((("a", 2), ("b", 1)), 2, gone) for gone in range(8)]
        self.assertEqual(told, [(0, 0, 0), (0, 0, 1), (0, 1, 0), (1, 0, 0), (1, 0, 1), (1, 1, 0), None, None])

    def test_at_each_beginning_and_just_ahead_of_it(self):
        self.assertEqual(place_at(WORK, 2, 0), (0, 0, 0))
        self.assertEqual(place_at(WORK, 2, 24), (0, 0, 24))
        self.assertEqual(place_at(WORK, 2, 25), (0, 1, 0))
        self.assertEqual(place_at(WORK, 2, 29), (0, 1, 4))
        self.assertEqual(place_at(WORK, 2, 30), (1, 0, 0))
        self.assertEqual(place_at(WORK, 2, 54), (1, 0, 24))
        self.assertEqual(place_at(WORK, 2, 55), (1, 1, 0))
        self.assertEqual(place_at(WORK, 2, 59), (1, 1, 4))

    def test_all_rounds_gone(self):
        for gone in (60, 61, 10 ** 30):
            self.assertIsNone(place_at(WORK, 2, gone))
            self.assertIsNone(left_of_phase(WORK, 2, gone))

    def test_phases_without_size_are_left_at_once(self):
        told = [place_at(MIXED, 2, gone) for gone in range(10)]
        self.assertEqual(told, [(0, 1, 0), (0, 1, 1), (0, 1, 2), (0, 4, 0), (0, 4, 1), (0, 5, 0), (0, 5, 1), (0, 5, 2),
                                (0, 5, 3), (1, 1, 0)])
        self.assertIsNone(place_at(MIXED, 2, 18))

    def test_no_phase_no_round_no_size(self):
        for phases, many in (((), 0), ((), 3), (WORK, 0), (EMPTY, 3)):
            for gone in (0, 1, 30):
                self.assertIsNone(place_at(phases, many, gone))
                self.assertIsNone(left_of_phase(phases, many, gone))

    def test_left_of_phase(self):
        told = [left_of_phase(WORK, 2, gone) for gone in (0, 1, 24, 25, 29, 30, 54, 55, 59)]
        self.assertEqual(told, [25, 24, 1, 5, 1, 25, 1, 5, 1])
        self.assertEqual([left_of_phase(MIXED, 1, gone) for gone in range(10)], [3, 2, 1, 2, 1, 4, 3, 2, 1, None])

    def test_far_on(self):
        many = 10 ** 30
        self.assertEqual(place_at(WORK, many, 30 * many - 1), (many - 1, 1, 4))
        self.assertEqual(left_of_phase(WORK, many, 30 * many - 1), 1)
        self.assertIsNone(place_at(WORK, many, 30 * many))


class Starts(unittest.TestCase):
    def test_of_all_rounds(self):
        self.assertEqual(starts(WORK, 2), [(0, 0, 0), (25, 0, 1), (30, 1, 0), (55, 1, 1)])

    def test_none_of_phases_without_size(self):
        self.assertEqual(starts(MIXED, 2), [(0, 0, 1), (3, 0, 4), (5, 0, 5), (9, 1, 1), (12, 1, 4), (14, 1, 5)])

    def test_no_phase_no_round_no_size(self):
        self.assertEqual(starts((), 3), [])
        self.assertEqual(starts(WORK, 0), [])
        self.assertEqual(starts(EMPTY, 3), [])
        self.assertEqual(starts(EMPTY, 10 ** 30), [])

    def test_told_lists_are_new_ones(self):
        starts(WORK, 1).append("more")
        self.assertEqual(starts(WORK, 1), [(0, 0, 0), (25, 0, 1)])


class When(unittest.TestCase):
    def test_each_phase(self):
        self.assertEqual([when(WORK, 0, 0), when(WORK, 0, 1), when(WORK, 1, 0), when(WORK, 3, 1)], [0, 25, 30, 115])

    def test_phases_without_size_too(self):
        self.assertEqual([when(MIXED, 0, number) for number in range(7)], [0, 0, 3, 3, 3, 5, 9])
        self.assertEqual([when(MIXED, 2, number) for number in range(7)], [18, 18, 21, 21, 21, 23, 27])
        self.assertEqual(when(EMPTY, 5, 1), 0)

    def test_far_on(self):
        self.assertEqual(when(WORK, 10 ** 30, 1), 3 * 10 ** 31 + 25)


class TimeIn(unittest.TestCase):
    def test_a_name_that_is_there(self):
        told = [time_in(WORK, 2, "rest", gone) for gone in (0, 25, 26, 29, 30, 54, 55, 57, 60)]
        self.assertEqual(told, [0, 0, 1, 4, 5, 5, 5, 7, 10])
        told = [time_in(WORK, 2, "work", gone) for gone in (0, 1, 25, 26, 30, 31, 55, 60)]
        self.assertEqual(told, [0, 1, 25, 25, 25, 26, 50, 50])

    def test_a_name_that_is_there_more_than_once(self):
        self.assertEqual([time_in(MIXED, 2, "a", gone) for gone in range(12)], [0, 1, 2, 3, 3, 3, 4, 5, 6, 7, 8, 9])
        self.assertEqual([time_in(MIXED, 2, "b", gone) for gone in range(12)], [0, 0, 0, 0, 1, 2, 2, 2, 2, 2, 2, 2])

    def test_a_name_without_size_or_not_there(self):
        for name in ("none", "nil", "end", "c", ""):
            for gone in (0, 9, 18, 40):
                self.assertEqual(time_in(MIXED, 2, name, gone), 0)

    def test_more_than_all_rounds(self):
        for gone in (60, 61, 85, 90, 10 ** 30):
            self.assertEqual(time_in(WORK, 2, "work", gone), 50)
            self.assertEqual(time_in(WORK, 2, "rest", gone), 10)

    def test_no_phase_no_round_no_size(self):
        for phases, many in (((), 0), ((), 3), (WORK, 0), (EMPTY, 3)):
            for gone in (0, 1, 30):
                self.assertEqual(time_in(phases, many, "work", gone), 0)
                self.assertEqual(time_in(phases, many, "a", gone), 0)

    def test_far_on(self):
        self.assertEqual(time_in(WORK, 10 ** 30, "rest", 10 ** 30 * 15 + 27), 10 ** 30 // 2 * 5 + 2)


if __name__ == "__main__":
    unittest.main()
