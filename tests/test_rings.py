"""Promises 2.3 and 2.4: when clocks ring; and 0.3 as far as it speaks of them."""

import unittest

from latebells.clocks import how_many, is_clock, last_ring, next_ring, rings, skipped

DAY = 1440
ALL_DAYS = (0, 1, 2, 3, 4, 5, 6)


class TimerRings(unittest.TestCase):
    def test_running(self):
        clock = ("timer", 10, 6, 100)
        for now, moment in ((0, 106), (99, 106), (100, 106), (105, 106), (106, None), (107, None)):
            self.assertEqual(next_ring(clock, now), moment)
        for start, end, told in ((0, 105, []), (0, 106, [106]), (105, 106, [106]), (105, 900, [106]), (106, 900, []),
                                 (106, 106, []), (200, 100, [])):
            self.assertEqual(rings(clock, start, end), told)
            self.assertEqual(how_many(clock, start, end), len(told))

    def test_not_running(self):
        clock = ("timer", 10, 6, None)
        self.assertIsNone(next_ring(clock, 0))
        self.assertEqual(rings(clock, 0, 1000), [])
        self.assertEqual(how_many(clock, 0, 1000), 0)

    def test_nothing_left(self):
        clock = ("timer", 10, 0, 50)
        self.assertEqual(next_ring(clock, 49), 50)
        self.assertIsNone(next_ring(clock, 50))
        self.assertEqual(rings(clock, 49, 50), [50])
        self.assertEqual(how_many(clock, 49, 50), 1)
        self.assertEqual(how_many(clock, 50, 99), 0)

    def test_moment_0(self):
        self.assertIsNone(next_ring(("timer", 0, 0, 0), 0))
        self.assertEqual(rings(("timer", 0, 0, 0), 0, 9), [])
        self.assertEqual(next_ring(("timer", 1, 1, 0), 0), 1)


class EveryRings(unittest.TestCase):
    def test_without_end(self):
        clock = ("every", 10, 4, None)
        for now, moment in ((0, 10), (9, 10), (10, 14), (11, 14), (13, 14), (14, 18), (15, 18), (10 + 4 * 10 ** 9, 14 + 4 * 10 ** 9)):
            self.assertEqual(next_ring(clock, now), moment)
        for start, end, told in ((0, 9, []), (0, 10, [10]), (9, 10, [10]), (10, 13, []), (10, 14, [14]), (9, 22, [10, 14, 18, 22]),
                                 (11, 21, [14, 18]), (14, 14, []), (13, 13, []), (30, 10, []), (22, 9, [])):
            self.assertEqual(rings(clock, start, end), told)
            self.assertEqual(how_many(clock, start, end), len(told))

    def test_with_an_end(self):
        clock = ("every", 10, 4, 3)
        for now, moment in ((0, 10), (10, 14), (17, 18), (18, None), (19, None), (900, None)):
            self.assertEqual(next_ring(clock, now), moment)
        for start, end, told in ((0, 900, [10, 14, 18]), (10, 900, [14, 18]), (17, 900, [18]), (17, 18, [18]), (18, 900, []),
                                 (0, 17, [10, 14]), (500, 900, []), (900, 0, [])):
            self.assertEqual(rings(clock, start, end), told)
            self.assertEqual(how_many(clock, start, end), len(told))

    def test_once(self):
        clock = ("every", 10, 4, 1)
        self.assertEqual(next_ring(clock, 9), 10)
        self.assertIsNone(next_ring(clock, 10))
        self.assertEqual(rings(clock, 0, 900), [10])
        self.assertEqual(how_many(clock, 0, 900), 1)

    def test_with_none(self):
        clock = ("every", 10, 4, 0)
        for now in (0, 9, 10, 14):
            self.assertIsNone(next_ring(clock, now))
        self.assertEqual(rings(clock, 0, 900), [])
        self.assertEqual(how_many(clock, 0, 900), 0)

    def test_moment_0(self):
        clock = ("every", 0, 1, None)
        self.assertEqual(next_ring(clock, 0), 1)
        self.assertEqual(rings(clock, 0, 3), [1, 2, 3])
        self.assertEqual(how_many(clock, 0, 3), 3)
        self.assertEqual(rings(clock, 0, 0), [])
        self.assertEqual(next_ring(clock, -1), 0)
        self.assertEqual(rings(clock, -1, 1), [0, 1])

    def test_numbers_without_bound(self):
        far = 10 ** 50
        self.assertEqual(how_many(("every", 7, 3, None), 7, 7 + 3 * far), far)
        self.assertEqual(how_many(("every", 7, 3, far), 0, far * far), far)
        self.assertEqual(next_ring(("every", 7, 3, far), 7 + 3 * (far - 2)), 7 + 3 * (far - 1))
        self.assertIsNone(next_ring(("every", 7, 3, far), 7 + 3 * (far - 1)))
        self.assertEqual(rings(("every", far, far, far), 0, 3 * far), [far, 2 * far, 3 * far])


class AlarmRings(unittest.TestCase):
    def as_told(self, clock, moment):
        minute, days, still = clock[1:]
        return moment >= 0 and moment % DAY == minute and moment // DAY % 7 in days and moment not in still

    def test_without_days(self):
        for still in ((), (0, 420), (420, DAY + 420)):
            clock = ("alarm", 420, (), still)
            for now in (0, 419, 420, 10 ** 30):
                self.assertIsNone(next_ring(clock, now))
            self.assertEqual(rings(clock, 0, 10 ** 30), [])
            self.assertEqual(how_many(clock, 0, 10 ** 30), 0)

    def test_all_days(self):
        clock = ("alarm", 420, ALL_DAYS, ())
        for now, moment in ((0, 420), (419, 420), (420, DAY + 420), (421, DAY + 420), (6 * DAY + 420, 7 * DAY + 420)):
            self.assertEqual(next_ring(clock, now), moment)
        self.assertEqual(rings(clock, 0, 8 * DAY), [day * DAY + 420 for day in range(8)])
        self.assertEqual(how_many(clock, 0, 8 * DAY), 8)

    def test_some_days(self):
        clock = ("alarm", 420, (1, 5), ())
        first, second, third = DAY + 420, 5 * DAY + 420, 8 * DAY + 420
        for now, moment in ((0, first), (first - 1, first), (first, second), (first + 1, second), (second - 1, second),
                            (second, third), (7 * DAY, third)):
            self.assertEqual(next_ring(clock, now), moment)
        for start, end, told in ((0, third, [first, second, third]), (first, third, [second, third]), (first - 1, first, [first]),
                                 (first, first, []), (first, second - 1, []), (first, second, [second]), (third, 0, [])):
            self.assertEqual(rings(clock, start, end), told)
            self.assertEqual(how_many(clock, start, end), len(told))

    def test_moment_0(self):
        clock = ("alarm", 0, (0,), ())
        self.assertEqual(next_ring(clock, 0), 7 * DAY)
        self.assertEqual(rings(clock, 0, 7 * DAY), [7 * DAY])
        self.assertEqual(how_many(clock, 0, 7 * DAY), 1)
        self.assertEqual(rings(clock, 0, 7 * DAY - 1), [])
        for now in (-1, -DAY, -30 * DAY):
            self.assertEqual(next_ring(clock, now), 0)
            self.assertEqual(rings(clock, now, 5), [0])
            self.assertEqual(how_many(clock, now, 5), 1)

    def test_no_ring_ahead_of_moment_0(self):
        clock = ("alarm", 420, ALL_DAYS, ())
        for now in (-1, -DAY, -30 * DAY):
            self.assertEqual(next_ring(clock, now), 420)
            self.assertEqual(rings(clock, now, 420), [420])
            self.assertEqual(how_many(clock, now, 420), 1)

    def test_last_minute_of_a_day(self):
        clock = ("alarm", 1439, (0, 6), ())
        self.assertEqual(next_ring(clock, 0), 1439)
        self.assertEqual(next_ring(clock, 1438), 1439)
        self.assertEqual(next_ring(clock, 1439), 7 * DAY - 1)
        self.assertEqual(next_ring(clock, 7 * DAY - 1), 8 * DAY - 1)

    def test_still(self):
        clock = ("alarm", 420, ALL_DAYS, (420, DAY + 420, 3 * DAY + 420))
        self.assertEqual(next_ring(clock, 0), 2 * DAY + 420)
        self.assertEqual(next_ring(clock, 420), 2 * DAY + 420)
        self.assertEqual(next_ring(clock, 2 * DAY + 420), 4 * DAY + 420)
        self.assertEqual(rings(clock, 0, 5 * DAY), [2 * DAY + 420, 4 * DAY + 420])
        self.assertEqual(how_many(clock, 0, 5 * DAY), 2)
        self.assertEqual(how_many(clock, 3 * DAY + 419, 3 * DAY + 420), 0)

    def test_still_where_it_does_not_ring_anyway(self):
        clock = ("alarm", 420, (0, 1), (0, 419, 421, 2 * DAY + 420, 7 * DAY))
        self.assertEqual(rings(clock, 0, 8 * DAY), [420, DAY + 420, 7 * DAY + 420])
        self.assertEqual(how_many(clock, 0, 8 * DAY), 3)

    def test_as_told_moment_by_moment(self):
        for clock in (
            ("alarm", 0, (0,), ()), ("alarm", 0, ALL_DAYS, (0, DAY)), ("alarm", 1439, (6,), ()), ("alarm", 700, (0, 3, 6), ()),
            ("alarm", 700, (2, 4), (2 * DAY + 700, 9 * DAY + 700, 9 * DAY + 701)), ("alarm", 5, (), (5,)),
        ):
            all_told = [moment for moment in range(17 * DAY) if self.as_told(clock, moment)]
            near = sorted({0, 1, 16 * DAY} | {moment + by for moment in all_told for by in (-1, 0, 1) if moment + by >= 0})
            for start in near:
                behind = [moment for moment in all_told if moment > start]
                if behind:
                    self.assertEqual(next_ring(clock, start), behind[0])
                for end in near:
                    told = [moment for moment in behind if moment <= end]
                    self.assertEqual(rings(clock, start, end), told)
                    self.assertEqual(how_many(clock, start, end), len(told))

    def test_numbers_without_bound(self):
        weeks = 10 ** 40
        clock = ("alarm", 420, (1, 2, 5), (DAY + 420, 7 * DAY * weeks + DAY + 420))
        self.assertEqual(how_many(clock, 0, 7 * DAY * weeks), 3 * weeks - 1)
        self.assertEqual(how_many(clock, 0, 7 * DAY * (weeks + 1)), 3 * weeks + 1)
        self.assertEqual(next_ring(clock, 7 * DAY * weeks), 7 * DAY * weeks + 2 * DAY + 420)

    def test_many_still_moments(self):
        many = 50000
        clock = ("alarm", 3, ALL_DAYS, tuple([day * DAY + 3 for day in range(many)]))
        self.assertEqual(next_ring(clock, 0), many * DAY + 3)
        self.assertEqual(rings(clock, 0, (many + 1) * DAY), [many * DAY + 3])
        self.assertEqual(how_many(clock, 0, (many + 1) * DAY), 1)


class Skipped(unittest.TestCase):
    def test_once(self):
        clock = ("alarm", 420, (1, 5), ())
        self.assertEqual(skipped(clock, 0), ("alarm", 420, (1, 5), (DAY + 420,)))
        self.assertEqual(skipped(clock, DAY + 419), ("alarm", 420, (1, 5), (DAY + 420,)))
        self.assertEqual(skipped(clock, DAY + 420), ("alarm", 420, (1, 5), (5 * DAY + 420,)))
        self.assertEqual(clock, ("alarm", 420, (1, 5), ()))

    def test_several_times(self):
        clock = ("alarm", 420, (1, 5), ())
        for _ in range(3):
            clock = skipped(clock, 0)
        self.assertEqual(clock, ("alarm", 420, (1, 5), (DAY + 420, 5 * DAY + 420, 8 * DAY + 420)))
        self.assertEqual(next_ring(clock, 0), 12 * DAY + 420)

    def test_still_moments_rise_whatever_came_first(self):
        later = skipped(("alarm", 420, (1, 5), (3,)), 3 * DAY)
        self.assertEqual(later[3], (3, 5 * DAY + 420))
        both = skipped(later, 0)
        self.assertEqual(both[3], (3, DAY + 420, 5 * DAY + 420))
        third = skipped(both, 0)
        self.assertEqual(third[3], (3, DAY + 420, 5 * DAY + 420, 8 * DAY + 420))
        self.assertTrue(is_clock(third))

    def test_where_there_is_no_next_ring(self):
        for clock in (("alarm", 420, (), ()), ("alarm", 420, (), (4, 420))):
            self.assertEqual(skipped(clock, 0), clock)


class ToldLists(unittest.TestCase):
    def test_new_each_time(self):
        for clock in (("timer", 10, 6, 100), ("timer", 10, 6, None), ("every", 3, 5, 4), ("every", 3, 5, 0),
                      ("alarm", 3, (0,), ()), ("alarm", 3, (), ())):
            told = rings(clock, 0, 500)
            kept = list(told)
            told.append(-1)
            self.assertEqual(rings(clock, 0, 500), kept)


# Not of the document's interface: what a house asks behind a sleep.
class LastRing(unittest.TestCase):
    def test_of_clocks_that_did_not_ring_yet(self):
        for clock in (("timer", 5, 5, 0), ("timer", 5, 5, None), ("every", 5, 1, None), ("every", 0, 1, 0),
                      ("alarm", 5, (0,), ()), ("alarm", 0, (1,), ()), ("alarm", 0, (), ()), ("alarm", 0, (0,), (0,))):
            self.assertIsNone(last_ring(clock, 4))

    def test_of_clocks_that_did(self):
        self.assertEqual([last_ring(("timer", 5, 5, 0), now) for now in (5, 6, 99)], [5, 5, 5])
        self.assertEqual([last_ring(("every", 5, 2, 2), now) for now in (5, 6, 7, 99)], [5, 5, 7, 7])
        self.assertEqual([last_ring(("every", 5, 2, None), now) for now in (5, 6, 7, 99)], [5, 5, 7, 99])
        self.assertEqual([last_ring(("alarm", 5, (0, 2), ()), now) for now in (5, 2884, 2885, 9999)],
                         [5, 5, 2885, 2885])

    def test_of_an_alarm_that_was_still(self):
        self.assertEqual(last_ring(("alarm", 5, (0, 2), (2885,)), 9999), 5)
        self.assertIsNone(last_ring(("alarm", 5, (0, 2), (5, 2885)), 9999))


if __name__ == "__main__":
    unittest.main()
