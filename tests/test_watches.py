"""Promises 1.1 and 1.2: watches; and 0.3 as far as it speaks of them."""

import unittest

from latebells.errors import Early
from latebells.watches import (cleared, fastest, fresh, halted, is_watch, lap_sizes, lapped, played, shown, started,
                               when_shown)

HUGE = 10 ** 6000
STANDING = (5, None, (2, 4))
RUNNING = (5, 100, (2, 4))


def deep(depth, make):
    thing = 0
    for _ in range(depth):
        thing = make(thing)
    return thing


class IsWatch(unittest.TestCase):
    def test_watches(self):
        for thing in (
            (0, None, ()), (0, 0, ()), (7, None, ()), (7, 3, ()), (0, 0, (0,)), (9, 2, (1, 1, 4)), (9, None, (0, 0, 0)),
            (3, None, (10, 20)), (HUGE, HUGE, (HUGE, HUGE + 1)),
        ):
            self.assertIs(is_watch(thing), True)

    def test_one_part_off(self):
        for thing in (
            (True, None, ()), (False, None, ()), (0, True, ()), (0, False, ()), (0, None, (True,)), (0, None, (0, True)),
            (-1, None, ()), (0, -1, ()), (0, None, (-1,)), (0, None, (-1, 0)),
            (None, None, ()), (0, None, None), (0, None, (None,)), (0, None, (1, None)),
            (0, None, []), (0, None, [1]), (0, None, ([],)), (0, None, ((),)), [0, None, ()], [0, 0, []],
            (), (0,), (0, None), (0, None, (), ()), (0, None, (), None), (0, None, 0), (0, None, 1, 2),
            (0, None, (2, 1)), (0, None, (1, 3, 2)), (0, None, (1, 0)), (0, None, (5, 5, 4)),
            ("0", None, ()), (0, "0", ()), (0, "", ()), (0, None, ""), (0, None, "12"), (0, None, ("1",)),
            ((0,), None, ()), (0, (0,), ()), (0, (), ()), (0, None, ((1,),)), ((0, None, ()),),
        ):
            with self.subTest(thing):
                self.assertIs(is_watch(thing), False)

    def test_things_of_another_kind(self):
        for thing in (0, 1, -1, 3, True, False, None, "", "abc", "watch", [], [0, None, ()], [[]], ((), (), ()), ([], [], []),
                      ("timer", 1, 1, None), "0, None, ()", HUGE):
            self.assertIs(is_watch(thing), False)

    def test_deep_things(self):
        for make in (lambda thing: (thing,), lambda thing: [thing], lambda thing: (thing, None, ()),
                     lambda thing: (0, thing, ()), lambda thing: (0, None, thing), lambda thing: (0, None, (thing,))):
            for depth in (2, 10, 15):
                self.assertIs(is_watch(deep(depth, make)), False)


class Deeds(unittest.TestCase):
    def test_fresh(self):
        self.assertEqual(fresh(), (0, None, ()))
        self.assertTrue(is_watch(fresh()))

    def test_shown(self):
        self.assertEqual(shown(fresh(), 0), 0)
        self.assertEqual(shown(fresh(), 50), 0)
        self.assertEqual(shown(STANDING, 0), 5)
        self.assertEqual(shown(STANDING, 1000), 5)
        self.assertEqual(shown(RUNNING, 100), 5)
        self.assertEqual(shown(RUNNING, 101), 6)
        self.assertEqual(shown(RUNNING, 130), 35)
        self.assertEqual(shown((0, 0, ()), 0), 0)

    def test_started(self):
        self.assertEqual(started(fresh(), 0), (0, 0, ()))
        self.assertEqual(started(STANDING, 7), (5, 7, (2, 4)))
        self.assertEqual(started(RUNNING, 100), RUNNING)
        self.assertEqual(started(RUNNING, 130), RUNNING)
        self.assertEqual(started((5, 0, ()), 9), (5, 0, ()))

    def test_halted(self):
        self.assertEqual(halted(fresh(), 3), fresh())
        self.assertEqual(halted(STANDING, 7), STANDING)
        self.assertEqual(halted(RUNNING, 100), (5, None, (2, 4)))
        self.assertEqual(halted(RUNNING, 130), (35, None, (2, 4)))
        self.assertEqual(halted((5, 0, ()), 9), (14, None, ()))

    def test_lapped(self):
        self.assertEqual(lapped(fresh(), 3), (0, None, (0,)))
        self.assertEqual(lapped(STANDING, 7), (5, None, (2, 4, 5)))
        self.assertEqual(lapped(lapped(STANDING, 7), 8), (5, None, (2, 4, 5, 5)))
        self.assertEqual(lapped(RUNNING, 100), (5, 100, (2, 4, 5)))
        self.assertEqual(lapped(RUNNING, 130), (5, 100, (2, 4, 35)))

    def test_cleared(self):
        self.assertEqual(cleared(fresh(), 3), fresh())
        self.assertEqual(cleared(STANDING, 7), fresh())
        self.assertEqual(cleared(RUNNING, 100), (0, 100, ()))
        self.assertEqual(cleared(RUNNING, 130), (0, 130, ()))
        self.assertEqual(cleared((5, 0, (1,)), 0), (0, 0, ()))

    def test_early(self):
        for deed in (shown, started, halted, lapped, cleared):
            for now in (0, 50, 99):
                with self.subTest((deed.__name__, now)):
                    watch = (5, 100, (2, 4))
                    with self.assertRaises(Early):
                        deed(watch, now)
                    self.assertEqual(watch, RUNNING)

    def test_never_early_that_does_not_run(self):
        for deed in (shown, started, halted, lapped, cleared):
            with self.subTest(deed.__name__):
                deed((500, None, (400,)), 0)

    def test_numbers_without_bound(self):
        self.assertTrue(shown((1, HUGE, ()), HUGE + 3) == 4)
        self.assertTrue(halted((HUGE, 1, ()), 3) == (HUGE + 2, None, ()))
        for deed in (shown, started, halted, lapped, cleared):
            with self.assertRaises(Early):
                deed((0, HUGE, ()), HUGE - 1)


class Laps(unittest.TestCase):
    def test_lap_sizes(self):
        self.assertEqual(lap_sizes(fresh()), [])
        self.assertEqual(lap_sizes((0, None, (0,))), [0])
        self.assertEqual(lap_sizes((9, 3, (4,))), [4])
        self.assertEqual(lap_sizes((9, None, (4, 4, 9, 11))), [4, 0, 5, 2])

    def test_fastest(self):
        self.assertEqual(fastest(fresh()), [])
        self.assertEqual(fastest((9, 3, ())), [])
        self.assertEqual(fastest((9, 3, (4,))), [0])
        self.assertEqual(fastest((9, 3, (0,))), [0])
        self.assertEqual(fastest((99, None, (5, 8, 13, 16, 20))), [1, 3])
        self.assertEqual(fastest((99, 1, (2, 4, 6))), [0, 1, 2])
        self.assertEqual(fastest((99, 1, (2, 2, 6, 6))), [1, 3])

    def test_told_lists_are_new(self):
        watch = (9, None, (4, 9))
        for tells in (lap_sizes, fastest):
            tells(watch).append(77)
            self.assertNotIn(77, tells(watch))
            tells(fresh()).append(77)
            self.assertEqual(tells(fresh()), [])


class WhenShown(unittest.TestCase):
    def test_running(self):
        self.assertEqual(when_shown((5, 100, ()), 5), 100)
        self.assertEqual(when_shown((5, 100, ()), 6), 101)
        self.assertEqual(when_shown((5, 100, ()), 50), 145)
        self.assertEqual(when_shown((0, 0, ()), 0), 0)

    def test_shown_before_it_ran(self):
        self.assertIsNone(when_shown((5, 100, ()), 4))
        self.assertIsNone(when_shown((5, 100, ()), 0))

    def test_not_running(self):
        for size in (0, 4, 5, 6):
            self.assertIsNone(when_shown((5, None, ()), size))

    def test_it_shows_so_much_then(self):
        for before in range(4):
            for size in range(before, 9):
                watch = (before, 20, ())
                self.assertEqual(shown(watch, when_shown(watch, size)), size)


class Played(unittest.TestCase):
    def test_no_deeds(self):
        self.assertEqual(played([]), fresh())

    def test_each_word(self):
        self.assertEqual(played([(3, "start")]), (0, 3, ()))
        self.assertEqual(played([(3, "halt")]), fresh())
        self.assertEqual(played([(3, "lap")]), (0, None, (0,)))
        self.assertEqual(played([(3, "clear")]), fresh())

    def test_all_words(self):
        deeds = [(1, "start"), (4, "lap"), (6, "halt"), (8, "lap"), (10, "start"), (15, "lap")]
        self.assertEqual(played(deeds), (5, 10, (3, 5, 10)))
        self.assertEqual(played(deeds + [(20, "clear")]), (0, 20, ()))
        self.assertEqual(played(deeds + [(20, "clear"), (22, "lap"), (23, "halt")]), (3, None, (2,)))
        self.assertEqual(played(deeds + [(20, "halt"), (20, "clear"), (25, "lap")]), (0, None, (0,)))

    def test_start_and_halt_twice(self):
        self.assertEqual(played([(1, "start"), (5, "start"), (9, "halt"), (12, "halt")]), (8, None, ()))

    def test_several_at_one_moment_go_in_their_order(self):
        self.assertEqual(played([(0, "start"), (5, "lap"), (5, "clear"), (5, "lap")]), (0, 5, (0,)))
        self.assertEqual(played([(0, "start"), (5, "clear"), (5, "halt")]), (0, None, ()))
        self.assertEqual(played([(0, "start"), (5, "halt"), (5, "clear")]), (0, None, ()))
        self.assertEqual(played([(0, "start"), (5, "halt"), (5, "start"), (5, "lap"), (7, "lap")]), (5, 5, (5, 7)))
        self.assertEqual(played([(5, "start"), (5, "halt")]), (0, None, ()))
        self.assertEqual(played([(5, "halt"), (5, "start")]), (0, 5, ()))

    def test_what_is_handed_in_is_not_changed(self):
        deeds = [(1, "start"), (4, "lap"), (6, "clear")]
        played(deeds)
        self.assertEqual(deeds, [(1, "start"), (4, "lap"), (6, "clear")])

    def test_as_the_deeds_one_behind_the_other(self):
        words = {"start": started, "halt": halted, "lap": lapped, "clear": cleared}
        names = sorted(words)
        for number in range(4 ** 5):
            deeds = [(step // 2 * 3, names[number // 4 ** step % 4]) for step in range(5)]
            watch = fresh()
            for moment, word in deeds:
                watch = words[word](watch, moment)
            self.assertEqual(played(deeds), watch)
            self.assertTrue(is_watch(watch))

    def test_many_laps(self):
        many = 200000
        watch = played([(0, "start")] + [(moment, "lap") for moment in range(many)])
        self.assertEqual(watch[2], tuple(range(many)))


if __name__ == "__main__":
    unittest.main()
