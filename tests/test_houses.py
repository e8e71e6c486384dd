"""Promises 4.1 and 4.2, and what 0.3 says of houses."""

import unittest

from latebells.clocks import anew, begun, skipped, timer
from latebells.errors import Asleep, Awake, Early, NoClock
from latebells.houses import House

FIVES = ("every", 5, 5, None)
TENS = ("every", 10, 10, None)
THRICE = ("every", 3, 3, 3)
EGG = ("timer", 7, 7, 0)
STOPPED = ("timer", 7, 7, None)
DAILY = ("alarm", 10, (0, 1, 2, 3, 4, 5, 6), ())


def house_of(now, **clocks):
    house = House(now)
    for name, clock in clocks.items():
        house.put(name, clock)
    return house


def asleep(now, **clocks):
    house = house_of(now, **clocks)
    house.sleep()
    return house


class Names(unittest.TestCase):
    def test_none_at_first(self):
        house = House(3)
        self.assertEqual(house.names(), [])
        self.assertEqual(house.moment(), 3)
        self.assertEqual(house.tick(100), [])
        self.assertIsNone(house.next_due())

    def test_put_and_clock(self):
        house = House(0)
        self.assertIsNone(house.put("egg", EGG))
        self.assertIsNone(house.put("", FIVES))
        self.assertEqual(house.clock("egg"), EGG)
        self.assertEqual(house.clock(""), FIVES)

    def test_names_rise(self):
        house = house_of(0, b=EGG, a=FIVES, Z=TENS, aa=EGG)
        self.assertEqual(house.names(), ["Z", "a", "aa", "b"])

    def test_put_anew(self):
        house = house_of(0, a=FIVES, b=TENS)
        house.put("a", EGG)
        self.assertEqual(house.names(), ["a", "b"])
        self.assertEqual(house.clock("a"), EGG)
        self.assertEqual(house.tick(10), [(7, "a"), (10, "b")])

    def test_drop(self):
        house = house_of(0, a=FIVES, b=TENS)
        self.assertIsNone(house.drop("a"))
        self.assertEqual(house.names(), ["b"])
        self.assertEqual(house.tick(10), [(10, "b")])
        self.assertRaises(NoClock, house.clock, "a")
        self.assertRaises(NoClock, house.drop, "a")
        house.put("a", EGG)
        self.assertEqual(house.clock("a"), EGG)

    def test_no_clock(self):
        house = house_of(0, a=FIVES)
        for name in ("b", "", "A", "aa"):
            self.assertRaises(NoClock, house.clock, name)
            self.assertRaises(NoClock, house.drop, name)
        self.assertEqual(house.names(), ["a"])
        self.assertEqual(house.clock("a"), FIVES)

    def test_told_lists_are_new_ones(self):
        house = house_of(0, a=FIVES)
        house.names().append("b")
        self.assertEqual(house.names(), ["a"])
        house.next_due()[1].append("b")
        self.assertEqual(house.next_due(), (5, ["a"]))

    def test_each_house_goes_by_itself(self):
        house_of(0, a=FIVES).tick(10)
        self.assertEqual(House(0).names(), [])


class Tick(unittest.TestCase):
    def test_rings_behind_the_moment_up_to_now(self):
        house = house_of(5, a=FIVES)
        self.assertEqual(house.tick(14), [(10, "a")])
        self.assertEqual(house.moment(), 14)
        self.assertEqual(house.tick(15), [(15, "a")])
        self.assertEqual(house.tick(19), [])
        self.assertEqual(house.tick(30), [(20, "a"), (25, "a"), (30, "a")])
        self.assertEqual(house.moment(), 30)

    def test_at_the_moment_that_it_has(self):
        house = house_of(5, a=FIVES)
        self.assertEqual(house.tick(5), [])
        self.assertEqual(house.tick(10), [(10, "a")])
        self.assertEqual(house.tick(10), [])
        self.assertEqual(house.moment(), 10)

    def test_at_moment_0(self):
        house = house_of(0, a=("every", 0, 4, None), b=("timer", 0, 0, 0))
        self.assertEqual(house.tick(0), [])
        self.assertEqual(house.tick(4), [(4, "a")])

    def test_several_clocks_by_moments_then_names(self):
        house = house_of(0, tens=TENS, fives=FIVES, egg=EGG, thrice=THRICE, stopped=STOPPED)
        self.assertEqual(house.tick(10), [(3, "thrice"), (5, "fives"), (6, "thrice"), (7, "egg"), (9, "thrice"),
                                          (10, "fives"), (10, "tens")])
        self.assertEqual(house.tick(20), [(15, "fives"), (20, "fives"), (20, "tens")])

    def test_one_clock_by_two_names(self):
        house = house_of(0, b=FIVES, a=FIVES)
        self.assertEqual(house.tick(5), [(5, "a"), (5, "b")])

    def test_early(self):
        house = house_of(5, a=FIVES)
        house.tick(12)
        for now in (11, 5, 0):
            self.assertRaises(Early, house.tick, now)
        self.assertEqual(house.moment(), 12)
        self.assertEqual(house.tick(15), [(15, "a")])

    def test_a_clock_put_later_tells_only_what_is_behind_the_moment(self):
        house = House(0)
        house.tick(10)
        house.put("a", FIVES)
        self.assertEqual(house.tick(10), [])
        self.assertEqual(house.tick(15), [(15, "a")])

    def test_a_clock_put_anew_tells_no_ring_twice(self):
        house = house_of(0, a=FIVES)
        self.assertEqual(house.tick(5), [(5, "a")])
        house.put("a", FIVES)
        self.assertEqual(house.tick(9), [])
        house.drop("a")
        house.put("a", FIVES)
        self.assertEqual(house.tick(10), [(10, "a")])

    def test_a_timer_put_anew_while_it_rings(self):
        house = house_of(0, egg=begun(timer(7), 0))
        self.assertEqual(house.tick(7), [(7, "egg")])
        house.put("egg", anew(house.clock("egg"), 7))
        self.assertEqual(house.tick(7), [])
        self.assertEqual(house.next_due(), (14, ["egg"]))
        self.assertEqual(house.tick(14), [(14, "egg")])
        house.put("egg", ("timer", 7, 0, 14))
        self.assertEqual(house.tick(30), [])

    def test_a_timer_put_anew_ahead_of_its_ring(self):
        house = house_of(0, egg=begun(timer(7), 0))
        house.tick(6)
        house.put("egg", anew(house.clock("egg"), 6))
        self.assertEqual(house.tick(20), [(13, "egg")])

    def test_alarms(self):
        house = house_of(0, a=skipped(DAILY, 1000))
        self.assertEqual(house.tick(4330), [(10, "a"), (2890, "a"), (4330, "a")])

    def test_far_moments(self):
        far = 10 ** 40
        house = house_of(far, a=FIVES, b=EGG)
        self.assertEqual(house.tick(far + 10), [(far + 5, "a"), (far + 10, "a")])

    def test_told_lists_are_new_ones(self):
        house = house_of(0, a=FIVES)
        house.tick(5).append("more")
        self.assertEqual(house.tick(5), [])


class Sleep(unittest.TestCase):
    def test_sleep_and_wake(self):
        house = house_of(5, a=FIVES)
        self.assertIsNone(house.sleep())
        self.assertEqual(house.moment(), 5)
        self.assertEqual(house.wake(22), [("a", 20, 3)])
        self.assertEqual(house.moment(), 22)
        self.assertEqual(house.tick(25), [(25, "a")])

    def test_rang_often_once_and_never(self):
        house = asleep(0, often=FIVES, thrice=THRICE, egg=EGG, never=STOPPED, behind=("timer", 50, 50, 0))
        self.assertEqual(house.wake(49), [("egg", 7, 1), ("often", 45, 9), ("thrice", 9, 3)])

    def test_just_at_falling_asleep_and_just_at_waking(self):
        house = asleep(7, egg=EGG, a=("timer", 2, 2, 7), b=("timer", 3, 3, 7))
        self.assertEqual(house.wake(9), [("a", 9, 1)])
        self.assertEqual(house.tick(10), [(10, "b")])

    def test_at_one_moment(self):
        house = asleep(5, a=FIVES)
        self.assertEqual(house.wake(5), [])
        house.sleep()
        self.assertEqual(house.wake(5), [])
        self.assertEqual(house.moment(), 5)
        self.assertEqual(house.tick(10), [(10, "a")])

    def test_sleeping_again_tells_none_twice(self):
        house = asleep(0, a=FIVES)
        self.assertEqual(house.wake(10), [("a", 10, 2)])
        house.sleep()
        self.assertEqual(house.wake(14), [])
        house.sleep()
        self.assertEqual(house.wake(15), [("a", 15, 1)])

    def test_behind_a_tick(self):
        house = house_of(0, a=FIVES)
        self.assertEqual(house.tick(10), [(5, "a"), (10, "a")])
        house.sleep()
        self.assertEqual(house.wake(15), [("a", 15, 1)])

    def test_alarms(self):
        still = skipped(skipped(DAILY, 1440 * 5), 1440 * 4)
        house = asleep(0, a=DAILY, b=still, c=("alarm", 10, (), ()), d=("alarm", 10, (2,), ()),
                       e=("alarm", 10, (6,), ()))
        moment = 1440 * 5 + 10
        self.assertEqual(house.wake(moment), [("a", moment, 6), ("b", 1440 * 3 + 10, 4), ("d", 1440 * 2 + 10, 1)])

    def test_an_alarm_that_is_still_at_all_its_moments_of_the_sleep(self):
        house = asleep(20, a=skipped(skipped(DAILY, 11), 1450))
        self.assertEqual(house.wake(4329), [])
        self.assertEqual(house.tick(4330), [(4330, "a")])

    def test_an_alarm_of_one_day_far_behind(self):
        week = 7 * 1440
        house = asleep(0, a=("alarm", 0, (6,), (week * 100 - 1440,)))
        self.assertEqual(house.wake(week * 100 - 1), [("a", week * 99 - 1440, 99)])

    def test_a_sleep_of_more_rings_than_can_be_walked(self):
        far = 10 ** 30
        house = asleep(0, a=("every", 1, 1, None), b=("every", 1, 2, 10 ** 29), c=DAILY)
        days = (far - 10) // 1440
        self.assertEqual(house.wake(far), [("a", far, far), ("b", 2 * 10 ** 29 - 1, 10 ** 29),
                                           ("c", days * 1440 + 10, days + 1)])

    def test_what_may_be_asked_asleep(self):
        house = asleep(5, a=FIVES)
        self.assertEqual(house.names(), ["a"])
        self.assertEqual(house.clock("a"), FIVES)
        self.assertRaises(NoClock, house.clock, "b")
        self.assertEqual(house.moment(), 5)
        self.assertEqual(house.next_due(), (10, ["a"]))


class Refusals(unittest.TestCase):
    def test_asleep_ahead_of_all_else(self):
        house = asleep(10, a=FIVES)
        self.assertRaises(Asleep, house.put, "a", TENS)
        self.assertRaises(Asleep, house.put, "b", TENS)
        self.assertRaises(Asleep, house.drop, "a")
        self.assertRaises(Asleep, house.drop, "b")
        for now in (9, 10, 20):
            self.assertRaises(Asleep, house.tick, now)
        self.assertRaises(Asleep, house.sleep)
        self.assertEqual((house.names(), house.clock("a"), house.moment()), (["a"], FIVES, 10))
        self.assertEqual(house.wake(20), [("a", 20, 2)])

    def test_awake_ahead_of_early(self):
        house = house_of(10, a=FIVES)
        for now in (9, 10, 20):
            self.assertRaises(Awake, house.wake, now)
        self.assertEqual(house.moment(), 10)
        self.assertEqual(house.tick(15), [(15, "a")])

    def test_awake_again_behind_a_wake(self):
        house = asleep(10)
        house.wake(12)
        self.assertRaises(Awake, house.wake, 13)
        self.assertEqual(house.tick(13), [])
        self.assertIsNone(house.put("a", FIVES))
        self.assertIsNone(house.drop("a"))
        self.assertIsNone(house.sleep())

    def test_wake_early(self):
        house = asleep(10, a=FIVES)
        for now in (9, 0):
            self.assertRaises(Early, house.wake, now)
        self.assertEqual(house.moment(), 10)
        self.assertRaises(Asleep, house.tick, 20)
        self.assertEqual(house.wake(15), [("a", 15, 1)])


class NextDue(unittest.TestCase):
    def test_none(self):
        self.assertIsNone(House(0).next_due())
        self.assertIsNone(house_of(7, egg=EGG, stopped=STOPPED, never=("alarm", 0, (), ())).next_due())

    def test_one_name(self):
        house = house_of(0, fives=FIVES, tens=TENS, stopped=STOPPED)
        self.assertEqual(house.next_due(), (5, ["fives"]))
        self.assertEqual(house.next_due(), (5, ["fives"]))

    def test_several_names(self):
        house = house_of(5, tens=TENS, fives=FIVES, egg=EGG, other=FIVES)
        self.assertEqual(house.next_due(), (7, ["egg"]))
        house.tick(7)
        self.assertEqual(house.next_due(), (10, ["fives", "other", "tens"]))

    def test_behind_the_moment_that_the_house_has(self):
        house = house_of(0, a=("every", 0, 3, 2))
        self.assertEqual(house.next_due(), (3, ["a"]))
        house.tick(2)
        self.assertEqual(house.next_due(), (3, ["a"]))
        house.tick(3)
        self.assertIsNone(house.next_due())

    def test_it_changes_nothing(self):
        house = house_of(0, a=FIVES)
        house.next_due()
        self.assertEqual(house.moment(), 0)
        self.assertEqual(house.tick(5), [(5, "a")])


if __name__ == "__main__":
    unittest.main()
