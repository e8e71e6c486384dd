"""Promises 6.1 and 6.2."""

import unittest

from latebells.paces import faster, first_showing, floor_read, gap, meet, reads, set_to

PLAIN = (0, 0, 1, 1)
SLOW = (10, 100, 2, 3)
BELOW = (-10, -100, 5, 4)
STANDS = (7, 3, 0, 6)


class Reads(unittest.TestCase):
    def test_at_then(self):
        self.assertEqual(reads(PLAIN, 0), (0, 1))
        self.assertEqual(reads(SLOW, 100), (10, 1))
        self.assertEqual(reads(BELOW, -100), (-10, 1))

    def test_behind_then(self):
        self.assertEqual(reads(PLAIN, 8), (8, 1))
        self.assertEqual([reads(SLOW, now) for now in (101, 102, 103, 104)], [(32, 3), (34, 3), (12, 1), (38, 3)])
        self.assertEqual([reads(BELOW, now) for now in (-99, -92, 0)], [(-35, 4), (0, 1), (115, 1)])

    def test_ahead_of_then(self):
        self.assertEqual([reads(SLOW, now) for now in (99, 98, 97, 85, 84, 0)],
                         [(28, 3), (26, 3), (8, 1), (0, 1), (-2, 3), (-170, 3)])
        self.assertEqual(reads(PLAIN, -3), (-3, 1))

    def test_lowest_terms(self):
        self.assertEqual(reads((0, 0, 6, 4), 1), (3, 2))
        self.assertEqual(reads((0, 0, 6, 4), -1), (-3, 2))
        self.assertEqual(reads((0, 0, 10, 4), 2), (5, 1))
        self.assertEqual(reads((1, 0, 2, 12), 2), (4, 3))
        self.assertEqual(reads((-1, 0, 4, 8), 2), (0, 1))
        self.assertEqual(reads((0, 5, 7, 21), 5), (0, 1))

    def test_up_of_0(self):
        self.assertEqual([reads(STANDS, now) for now in (-50, 3, 50)], [(7, 1)] * 3)
        self.assertEqual(reads((0, 0, 0, 9), 4), (0, 1))

    def test_far_on(self):
        far = 10 ** 40
        self.assertEqual(reads((1, 0, 1, 3), far), (far + 3, 3))
        self.assertEqual(reads((0, 0, far, 3 * far), -1), (-1, 3))


class FloorRead(unittest.TestCase):
    def test_whole_and_not_whole(self):
        self.assertEqual([floor_read(SLOW, now) for now in (100, 101, 102, 103, 104)], [10, 10, 11, 12, 12])

    def test_below_0(self):
        self.assertEqual([floor_read(SLOW, now) for now in (85, 84, 83, 82, 0)], [0, -1, -2, -2, -57])
        self.assertEqual([floor_read(BELOW, now) for now in (-100, -99, -96)], [-10, -9, -5])
        self.assertEqual(floor_read(BELOW, -101), -12)

    def test_up_of_0(self):
        self.assertEqual([floor_read(STANDS, now) for now in (-50, 3, 50)], [7] * 3)

    def test_far_on(self):
        self.assertEqual(floor_read((0, 0, 1, 3), 10 ** 40), 10 ** 40 // 3)


class Gap(unittest.TestCase):
    def test_both_ways_round(self):
        self.assertEqual(gap(SLOW, PLAIN, 101), (-271, 3))
        self.assertEqual(gap(PLAIN, SLOW, 101), (271, 3))
        self.assertEqual(gap(PLAIN, SLOW, 100), (90, 1))
        self.assertEqual(gap(SLOW, PLAIN, 100), (-90, 1))

    def test_lowest_terms(self):
        self.assertEqual(gap((0, 0, 1, 2), (0, 0, 1, 6), 1), (1, 3))
        self.assertEqual(gap((0, 0, 1, 6), (0, 0, 1, 2), 1), (-1, 3))
        self.assertEqual(gap((0, 0, 1, 6), (0, 0, 7, 6), 1), (-1, 1))
        self.assertEqual(gap((0, 0, 1, 2), (0, 0, 3, 6), 5), (0, 1))

    def test_of_itself(self):
        for now in (-7, 0, 101):
            self.assertEqual(gap(SLOW, SLOW, now), (0, 1))

    def test_below_0(self):
        self.assertEqual(gap(BELOW, SLOW, -100), (340, 3))
        self.assertEqual(gap(STANDS, BELOW, -99), (63, 4))


class Meet(unittest.TestCase):
    def test_at_a_whole_time(self):
        self.assertEqual(meet((0, 0, 1, 1), (6, 0, 1, 2)), (12, 1))
        self.assertEqual(meet((6, 0, 1, 2), (0, 0, 1, 1)), (12, 1))
        self.assertEqual(meet((5, 9, 1, 1), (5, 9, 1, 2)), (9, 1))
        self.assertEqual(meet((0, 0, 1, 3), (0, 0, 1, 2)), (0, 1))

    def test_at_one_that_is_not_whole(self):
        self.assertEqual(meet((0, 0, 2, 1), (1, 0, 0, 1)), (1, 2))
        self.assertEqual(meet((1, 0, 0, 1), (0, 0, 2, 1)), (1, 2))
        self.assertEqual(meet((0, 0, 1, 1), (0, 1, 5, 2)), (5, 3))
        self.assertEqual(meet((0, 0, 6, 4), (5, 0, 2, 6)), (30, 7))

    def test_below_0(self):
        self.assertEqual(meet((3, 0, 1, 1), (0, 0, 1, 2)), (-6, 1))
        self.assertEqual(meet((0, 0, 1, 2), (3, 0, 1, 1)), (-6, 1))
        self.assertEqual(meet((1, 0, 2, 1), (0, 0, 0, 5)), (-1, 2))
        self.assertEqual(meet(STANDS, (8, 3, 1, 3)), (0, 1))
        self.assertEqual(meet(STANDS, (9, 3, 1, 3)), (-3, 1))

    def test_of_clocks_that_go_on_alike(self):
        self.assertIsNone(meet(SLOW, SLOW))
        self.assertIsNone(meet(SLOW, (11, 100, 2, 3)))
        self.assertIsNone(meet(SLOW, (10, 100, 4, 6)))
        self.assertIsNone(meet((0, 0, 6, 4), (1, 0, 9, 6)))
        self.assertIsNone(meet(STANDS, (8, 3, 0, 1)))
        self.assertIsNone(meet(STANDS, (7, 0, 0, 1)))

    def test_far_on(self):
        far = 10 ** 40
        self.assertEqual(meet((far, 0, 1, 1), (0, 0, 2, 1)), (far, 1))
        self.assertEqual(meet((1, 0, far, 1), (0, 0, far + 3, 1)), (1, 3))


class FirstShowing(unittest.TestCase):
    def test_what_it_shows_just_then(self):
        self.assertEqual(first_showing(PLAIN, 0), 0)
        self.assertEqual(first_showing(SLOW, 10), 100)
        self.assertEqual(first_showing(BELOW, -10), -100)

    def test_more(self):
        self.assertEqual([first_showing(SLOW, number) for number in (11, 12, 13)], [102, 103, 105])
        self.assertEqual([first_showing(BELOW, number) for number in (-9, -5, 0)], [-99, -96, -92])
        self.assertEqual(first_showing((0, 0, 1, 1000), 1), 1000)
        self.assertEqual(first_showing((0, 0, 1000, 1), 1), 1)

    def test_less(self):
        self.assertEqual([first_showing(SLOW, number) for number in (9, 8, 0, -1)], [99, 97, 85, 84])
        self.assertEqual(first_showing((0, 0, 1000, 1), -1), 0)
        self.assertEqual(first_showing((0, 0, 1000, 1), -1000), -1)
        self.assertEqual(first_showing(BELOW, -12), -101)

    def test_far_on(self):
        self.assertEqual(first_showing((0, 0, 3, 1), 10 ** 40), 10 ** 40 // 3 + 1)

    def test_a_clock_that_stands_still_has_no_first_moment(self):
        for number in (6, 7, 8):
            self.assertIsNone(first_showing(STANDS, number))


class SetAnew(unittest.TestCase):
    def test_set_to(self):
        self.assertEqual(set_to(SLOW, 50, 7), (50, 7, 2, 3))
        self.assertEqual(set_to((0, 0, 4, 6), -5, -7), (-5, -7, 4, 6))
        self.assertEqual(set_to(STANDS, 0, 0), (0, 0, 0, 6))

    def test_faster(self):
        self.assertEqual(faster(SLOW, 5, 1, 102), (11, 102, 5, 1))
        self.assertEqual(faster(SLOW, 2, 4, 103), (12, 103, 2, 4))
        self.assertEqual(faster(SLOW, 0, 1, 84), (-1, 84, 0, 1))
        self.assertEqual(faster(BELOW, 1, 8, -101), (-12, -101, 1, 8))


if __name__ == "__main__":
    unittest.main()
