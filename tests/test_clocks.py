"""Promises 2.1 and 2.2: what a clock is, and the deeds of timers; and 0.3 as far as it speaks of them."""

import unittest

from latebells.clocks import anew, begun, is_clock, left_at, longer, stopped, timer
from latebells.errors import Early

HUGE = 10 ** 6000
STANDING = ("timer", 10, 6, None)
RUNNING = ("timer", 10, 6, 100)


def deep(depth, make):
    thing = 0
    for _ in range(depth):
        thing = make(thing)
    return thing


class IsClock(unittest.TestCase):
    def good(self, *things):
        for thing in things:
            self.assertIs(is_clock(thing), True)

    def bad(self, *things):
        for thing in things:
            with self.subTest(thing):
                self.assertIs(is_clock(thing), False)

    def test_timers(self):
        self.good(("timer", 0, 0, None), ("timer", 0, 0, 0), STANDING, RUNNING, ("timer", 5, 9, None),
                  ("timer", 5, 9, 1), ("timer", HUGE, HUGE, HUGE))

    def test_timers_one_part_off(self):
        self.bad(
            ("timer", True, 1, None), ("timer", 1, True, None), ("timer", 1, 1, True), ("timer", 1, 1, False),
            ("timer", -1, 0, None), ("timer", 1, -1, None), ("timer", 1, 1, -1),
            ("timer", None, 1, None), ("timer", 1, None, None), ("timer", 1, "1", None), ("timer", "1", 1, None),
            ("timer", 1, 1, "0"), ("timer", 1, 1, ()), ("timer", (1,), 1, None), ("timer", 1, [1], None),
            ("timer", 1, 1), ("timer", 1, 1, None, None), ("timer",), ["timer", 1, 1, None],
            ("Timer", 1, 1, None), ("timer ", 1, 1, None), ("", 1, 1, None), (1, 1, 1, None), (None, 1, 1, None),
            (("timer",), 1, 1, None), (["timer"], 1, 1, None), ("tim", 1, 1, None), (True, 1, 1, None),
        )

    def test_everies(self):
        self.good(("every", 0, 1, 0), ("every", 0, 1, None), ("every", 5, 3, 1), ("every", 7, 60, 12),
                  ("every", HUGE, HUGE, HUGE), ("every", HUGE, HUGE, None))

    def test_everies_one_part_off(self):
        self.bad(
            ("every", True, 1, None), ("every", 0, True, None), ("every", 0, 1, True), ("every", 0, 1, False),
            ("every", -1, 1, None), ("every", 0, 0, None), ("every", 0, -1, None), ("every", 0, 1, -1),
            ("every", None, 1, None), ("every", 0, None, None), ("every", 0, "1", None), ("every", "0", 1, None),
            ("every", 0, 1, "1"), ("every", 0, 1, ()), ("every", 0, [1], 1), ("every", (0,), 1, 1),
            ("every", 0, 1), ("every", 0, 1, None, None), ["every", 0, 1, None], ("Every", 0, 1, None),
        )

    def test_alarms(self):
        self.good(("alarm", 0, (), ()), ("alarm", 1439, (0, 1, 2, 3, 4, 5, 6), ()), ("alarm", 420, (6,), (0,)),
                  ("alarm", 420, (0, 6), (0, 1, 2)), ("alarm", 1, (), (5, 9, HUGE)), ("alarm", 420, (1, 3), (420, 99999)))

    def test_alarms_one_part_off(self):
        self.bad(
            ("alarm", -1, (), ()), ("alarm", 1440, (), ()), ("alarm", True, (), ()), ("alarm", None, (), ()),
            ("alarm", "0", (), ()), ("alarm", (0,), (), ()),
            ("alarm", 0, (7,), ()), ("alarm", 0, (-1,), ()), ("alarm", 0, (True,), ()), ("alarm", 0, (0, True), ()),
            ("alarm", 0, (False, 1), ()), ("alarm", 0, (None,), ()), ("alarm", 0, (0, None), ()),
            ("alarm", 0, ("0",), ()), ("alarm", 0, ((0,),), ()), ("alarm", 0, "01", ()), ("alarm", 0, 3, ()),
            ("alarm", 0, (1, 0), ()), ("alarm", 0, (1, 1), ()), ("alarm", 0, (0, 2, 2), ()), ("alarm", 0, (0, 5, 4), ()),
            ("alarm", 0, (0, 1, 7), ()), ("alarm", 0, (-1, 0), ()), ("alarm", 0, [], ()), ("alarm", 0, [1], ()),
            ("alarm", 0, None, ()),
            ("alarm", 0, (), []), ("alarm", 0, (), [1]), ("alarm", 0, (), None), ("alarm", 0, (), 0), ("alarm", 0, (), ""),
            ("alarm", 0, (), (True,)), ("alarm", 0, (), (0, True)), ("alarm", 0, (), (False,)), ("alarm", 0, (), (None,)),
            ("alarm", 0, (), (-1,)), ("alarm", 0, (), (-1, 0)), ("alarm", 0, (), (5, 4)), ("alarm", 0, (), (5, 5)),
            ("alarm", 0, (), (1, 3, 2)), ("alarm", 0, (), ("1",)), ("alarm", 0, (), ((1,),)), ("alarm", 0, (), ([],)),
            ("alarm", 0, ()), ("alarm", 0, (), (), ()), ["alarm", 0, (), ()], ("Alarm", 0, (), ()),
        )

    def test_parts_of_one_kind_under_the_word_of_another(self):
        self.bad(("timer", 0, (), ()), ("every", 0, (), ()), ("alarm", 0, 1, None), ("alarm", 1, 1, 1))

    def test_things_of_another_kind(self):
        self.bad(0, 1, -1, 4, True, False, None, "", "timer", "abcd", [], (), [[]], ((),), (0, None, ()),
                 ((), (), (), ()), [[], [], [], []], (None, None, None, None), (0, 0, 0, 0))

    def test_deep_things(self):
        for make in (lambda thing: (thing,), lambda thing: [thing], lambda thing: (thing, 1, 1, None),
                     lambda thing: ("timer", 1, 1, (thing,)), lambda thing: ("every", thing, 1, None),
                     lambda thing: ("alarm", 0, (thing,), ()), lambda thing: ("alarm", 0, (), (thing,))):
            for depth in (2, 10, 15):
                self.bad(deep(depth, make))


class Timers(unittest.TestCase):
    def test_timer(self):
        self.assertEqual(timer(0), ("timer", 0, 0, None))
        self.assertEqual(timer(90), ("timer", 90, 90, None))

    def test_left_at(self):
        for now in (0, 50, 1000):
            self.assertEqual(left_at(STANDING, now), 6)
        for now, left in ((100, 6), (101, 5), (105, 1), (106, 0), (107, 0), (5000, 0)):
            self.assertEqual(left_at(RUNNING, now), left)
        self.assertEqual(left_at(("timer", 3, 3, 0), 0), 3)
        self.assertEqual(left_at(("timer", 3, 3, 0), 1), 2)

    def test_begun(self):
        self.assertEqual(begun(STANDING, 40), ("timer", 10, 6, 40))
        self.assertEqual(begun(timer(7), 0), ("timer", 7, 7, 0))
        for now in (100, 103, 106, 900):
            self.assertEqual(begun(RUNNING, now), RUNNING)
        self.assertEqual(begun(("timer", 7, 7, 0), 3), ("timer", 7, 7, 0))

    def test_stopped(self):
        self.assertEqual(stopped(STANDING, 40), STANDING)
        for now, left in ((100, 6), (102, 4), (105, 1), (106, 0), (200, 0)):
            self.assertEqual(stopped(RUNNING, now), ("timer", 10, left, None))
        self.assertEqual(stopped(("timer", 7, 7, 0), 2), ("timer", 7, 5, None))

    def test_longer(self):
        self.assertEqual(longer(STANDING, 3, 40), ("timer", 10, 9, None))
        self.assertEqual(longer(STANDING, 30, 40), ("timer", 10, 36, None))
        self.assertEqual(longer(RUNNING, 3, 100), ("timer", 10, 9, 100))
        self.assertEqual(longer(RUNNING, 30, 102), ("timer", 10, 34, 102))
        self.assertEqual(longer(RUNNING, 0, 102), ("timer", 10, 4, 102))
        self.assertEqual(longer(("timer", 7, 7, 0), 1, 2), ("timer", 7, 6, 2))

    def test_longer_by_less_than_0(self):
        self.assertEqual(longer(STANDING, -2, 40), ("timer", 10, 4, None))
        self.assertEqual(longer(RUNNING, -2, 101), ("timer", 10, 3, 101))
        self.assertEqual(longer(RUNNING, -5, 101), ("timer", 10, 0, 101))

    def test_longer_by_more_than_is_left(self):
        self.assertEqual(longer(STANDING, -7, 40), ("timer", 10, 0, None))
        self.assertEqual(longer(RUNNING, -6, 101), ("timer", 10, 0, 101))
        self.assertEqual(longer(RUNNING, -900, 101), ("timer", 10, 0, 101))

    def test_longer_when_it_rings_and_behind(self):
        self.assertEqual(longer(RUNNING, 4, 106), ("timer", 10, 4, 106))
        self.assertEqual(longer(RUNNING, 4, 150), ("timer", 10, 4, 150))
        self.assertEqual(longer(RUNNING, -4, 150), ("timer", 10, 0, 150))

    def test_anew(self):
        self.assertEqual(anew(STANDING, 40), ("timer", 10, 10, None))
        for now in (100, 103, 106, 900):
            self.assertEqual(anew(RUNNING, now), ("timer", 10, 10, now))
        self.assertEqual(anew(("timer", 5, 40, 0), 0), ("timer", 5, 5, 0))

    def test_early(self):
        for name, deed in self.deeds():
            for now in (0, 50, 99):
                with self.subTest((name, now)):
                    clock = ("timer", 10, 6, 100)
                    with self.assertRaises(Early):
                        deed(clock, now)
                    self.assertEqual(clock, RUNNING)

    def test_never_early_that_does_not_run(self):
        for name, deed in self.deeds():
            with self.subTest(name):
                deed(("timer", 900, 800, None), 0)

    def test_numbers_without_bound(self):
        self.assertTrue(left_at(("timer", HUGE, HUGE, 5), 8) == HUGE - 3)
        self.assertTrue(longer(("timer", 1, 1, HUGE), -HUGE, HUGE) == ("timer", 1, 0, HUGE))
        for name, deed in self.deeds():
            with self.subTest(name), self.assertRaises(Early):
                deed(("timer", 1, 1, HUGE), HUGE - 1)

    def test_what_comes_is_a_clock(self):
        for clock in (STANDING, RUNNING, timer(0), timer(4)):
            self.assertTrue(is_clock(clock))
            for name, deed in self.deeds():
                if name != "left_at":
                    self.assertTrue(is_clock(deed(clock, 103)))

    def deeds(self):
        return (("left_at", left_at), ("begun", begun), ("stopped", stopped), ("anew", anew),
                ("longer", lambda clock, now: longer(clock, 3, now)),
                ("longer, less", lambda clock, now: longer(clock, -3, now)))


if __name__ == "__main__":
    unittest.main()
