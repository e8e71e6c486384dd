"""Promises 9.1 and 9.2, and what 0.3 says of turns."""

import unittest

from latebells.errors import Early
from latebells.turns import Turns


def begun(one=10, other=20, more=3, side=0, now=100):
    game = Turns(one, other, more)
    game.begin(side, now)
    return game


class Begin(unittest.TestCase):
    def test_ahead_of_it(self):
        game = Turns(10, 20, 3)
        self.assertEqual((game.left_of(0, 0), game.left_of(1, 0)), (10, 20))
        self.assertIsNone(game.running(5))
        self.assertIsNone(game.fell(5))
        self.assertEqual((game.left_of(0, 500), game.left_of(1, 500)), (10, 20))
        self.assertIsNone(game.fell(500))
        self.assertEqual(game.turns(), [])

    def test_press_ahead_of_it(self):
        game = Turns(10, 20, 3)
        self.assertIs(game.press(5), False)
        self.assertIsNone(game.running(5))
        self.assertEqual(game.turns(), [])
        self.assertEqual((game.left_of(0, 9), game.left_of(1, 9)), (10, 20))
        self.assertIs(game.begin(0, 9), True)
        self.assertEqual(game.left_of(0, 10), 9)

    def test_either_side(self):
        for side in (0, 1):
            game = Turns(10, 20, 3)
            self.assertIs(game.begin(side, 100), True)
            self.assertEqual(game.running(100), side)
            self.assertEqual(game.left_of(side, 104), (10, 20)[side] - 4)
            self.assertEqual(game.left_of(1 - side, 104), (20, 10)[side])

    def test_twice(self):
        for side in (0, 1):
            game = begun()
            self.assertIs(game.begin(side, 104), False)
            self.assertEqual(game.running(104), 0)
            self.assertEqual(game.left_of(0, 105), 5)
            self.assertEqual(game.fell(110), (0, 110))

    def test_behind_a_press_and_behind_a_fall(self):
        game = begun()
        game.press(101)
        self.assertIs(game.begin(0, 102), False)
        self.assertIs(game.begin(1, 102), False)
        self.assertEqual(game.running(102), 1)
        self.assertEqual(game.fell(500), (1, 121))
        self.assertIs(game.begin(0, 501), False)
        self.assertIsNone(game.running(501))


class Press(unittest.TestCase):
    def test_what_is_left_and_what_a_turn_brings(self):
        game = begun()
        self.assertIs(game.press(104), True)
        self.assertEqual(game.running(104), 1)
        self.assertEqual((game.left_of(0, 104), game.left_of(1, 104)), (9, 20))
        self.assertEqual((game.left_of(0, 111), game.left_of(1, 111)), (9, 13))
        self.assertIs(game.press(111), True)
        self.assertEqual((game.left_of(0, 111), game.left_of(1, 111)), (9, 16))
        self.assertEqual((game.left_of(0, 113), game.left_of(1, 113)), (7, 16))
        self.assertEqual(game.running(113), 0)
        self.assertEqual(game.turns(), [(0, 4), (1, 7)])

    def test_a_turn_that_brings_nothing(self):
        game = begun(more=0)
        game.press(104)
        game.press(105)
        self.assertEqual((game.left_of(0, 105), game.left_of(1, 105)), (6, 19))

    def test_a_turn_may_bring_more_than_there_was_at_first(self):
        game = begun(one=1, other=1, more=50)
        self.assertIs(game.press(100), True)
        self.assertEqual(game.left_of(0, 100), 51)
        self.assertEqual(game.turns(), [(0, 0)])

    def test_several_at_one_moment(self):
        game = begun()
        self.assertEqual([game.press(100) for _ in range(4)], [True] * 4)
        self.assertEqual(game.turns(), [(0, 0), (1, 0), (0, 0), (1, 0)])
        self.assertEqual((game.left_of(0, 100), game.left_of(1, 100)), (16, 26))
        self.assertEqual(game.running(100), 0)

    def test_just_ahead_of_the_fall(self):
        game = begun()
        self.assertIs(game.press(109), True)
        self.assertEqual(game.left_of(0, 109), 4)
        self.assertIsNone(game.fell(109))

    def test_at_the_very_moment_of_the_fall_and_behind_it(self):
        for now in (110, 111, 500):
            game = begun()
            self.assertIs(game.press(now), False)
            self.assertEqual(game.fell(now), (0, 110))
            self.assertIsNone(game.running(now))
            self.assertEqual((game.left_of(0, now), game.left_of(1, now)), (0, 20))
            self.assertEqual(game.turns(), [])
            self.assertIs(game.press(now + 1), False)
            self.assertEqual(game.left_of(1, now + 100), 20)

    def test_the_other_side_falls_by_what_it_has(self):
        game = begun(side=1)
        game.press(119)
        self.assertEqual(game.left_of(1, 119), 4)
        self.assertIsNone(game.fell(128))
        self.assertEqual(game.fell(129), (0, 129))
        self.assertEqual(game.left_of(1, 129), 4)


class Falls(unittest.TestCase):
    def test_left_of_is_never_below_0(self):
        game = begun()
        self.assertEqual([game.left_of(0, now) for now in (100, 101, 109, 110, 111, 10 ** 30)], [10, 9, 1, 0, 0, 0])

    def test_fell_ahead_of_the_fall_at_it_and_behind_it(self):
        game = begun()
        self.assertEqual([game.fell(now) for now in (100, 109)], [None, None])
        self.assertEqual([game.fell(now) for now in (110, 111, 10 ** 30)], [(0, 110)] * 3)

    def test_running_ahead_of_the_fall_at_it_and_behind_it(self):
        game = begun(side=1)
        self.assertEqual([game.running(now) for now in (100, 119, 120, 121)], [1, 1, None, None])

    def test_the_least_that_may_be_left(self):
        game = begun(one=1)
        self.assertEqual(game.running(100), 0)
        self.assertEqual(game.fell(101), (0, 101))

    def test_a_fall_in_a_later_turn(self):
        game = begun()
        game.press(104)
        game.press(105)
        self.assertEqual(game.left_of(0, 105), 9)
        self.assertEqual(game.fell(300), (0, 114))
        self.assertEqual(game.turns(), [(0, 4), (1, 1)])
        self.assertEqual((game.left_of(0, 300), game.left_of(1, 300)), (0, 22))

    def test_turns_tells_of_no_turn_that_goes_on_or_ended_by_a_fall(self):
        game = begun()
        self.assertEqual(game.turns(), [])
        game.press(103)
        self.assertEqual(game.turns(), [(0, 3)])
        game.press(400)
        self.assertEqual(game.turns(), [(0, 3)])


class TooEarly(unittest.TestCase):
    def refused(self, game, now):
        for side in (0, 1):
            self.assertRaises(Early, game.begin, side, now)
            self.assertRaises(Early, game.left_of, side, now)
        for deed in (game.press, game.fell, game.running):
            self.assertRaises(Early, deed, now)

    def test_each_of_them_tells_of_its_moment(self):
        deeds = (lambda game: game.begin(0, 50), lambda game: game.press(50), lambda game: game.left_of(0, 50),
                 lambda game: game.left_of(1, 50), lambda game: game.fell(50), lambda game: game.running(50))
        for deed in deeds:
            game = Turns(10, 20, 3)
            deed(game)
            self.refused(game, 49)
            self.refused(game, 0)
            self.assertIn(game.running(50), (None, 0))

    def test_the_moment_of_a_fall_is_not_one_that_was_told_of(self):
        game = begun()
        game.running(105)
        self.assertEqual(game.left_of(0, 105), 5)

    def test_behind_a_fall(self):
        game = begun()
        self.assertIs(game.press(150), False)
        self.refused(game, 149)
        self.refused(game, 105)
        self.assertEqual(game.fell(150), (0, 110))

    def test_refused_ahead_of_begin_changes_nothing(self):
        game = Turns(10, 20, 3)
        game.running(50)
        self.refused(game, 49)
        self.assertIsNone(game.running(50))
        self.assertIs(game.begin(1, 50), True)

    def test_refused_behind_begin_changes_nothing(self):
        game = begun()
        game.left_of(1, 104)
        self.refused(game, 103)
        self.refused(game, 99)
        self.assertEqual(game.turns(), [])
        self.assertEqual(game.running(104), 0)
        self.assertEqual((game.left_of(0, 104), game.left_of(1, 104)), (6, 20))
        self.assertIs(game.press(104), True)
        self.assertEqual(game.turns(), [(0, 4)])
        self.refused(game, 103)
        self.assertEqual((game.running(104), game.turns()), (1, [(0, 4)]))

    def test_turns_tells_of_no_moment(self):
        game = begun()
        game.turns()
        self.assertEqual(game.running(100), 0)


class Lists(unittest.TestCase):
    def test_told_lists_are_new_ones(self):
        game = begun()
        game.press(103)
        first = game.turns()
        game.turns().clear()
        game.press(104)
        self.assertEqual(first, [(0, 3)])
        self.assertEqual(game.turns(), [(0, 3), (1, 1)])

    def test_each_goes_by_itself(self):
        begun().press(103)
        self.assertEqual(Turns(10, 20, 3).turns(), [])
        self.assertIsNone(Turns(10, 20, 3).running(0))


if __name__ == "__main__":
    unittest.main()
