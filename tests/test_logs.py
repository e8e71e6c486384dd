"""Promises 8.1 and 8.2, and what 0.3 says of logs."""

import unittest

from latebells.errors import NoClock
from latebells.logs import Log


def log_of(*deeds):
    log = Log()
    for moment, word in deeds:
        log.tell(moment, word)
    return log


class Deeds(unittest.TestCase):
    def test_none_at_first(self):
        log = Log()
        self.assertEqual(log.deeds(), [])
        self.assertEqual(log.watch_at(0), (0, None, ()))
        self.assertEqual(log.shown_at(100), 0)
        self.assertEqual(log.runs(), [])
        self.assertEqual(log.ran(0, 100), 0)

    def test_numbers_as_they_are_told(self):
        log = Log()
        told = [log.tell(9, "start"), log.tell(3, "lap"), log.tell(9, "start"), log.tell(0, "clear")]
        self.assertEqual(told, [0, 1, 2, 3])

    def test_a_deed_told_late_stands_between_others(self):
        log = log_of((5, "start"), (20, "halt"), (10, "lap"), (0, "clear"), (30, "start"))
        self.assertEqual(log.deeds(), [(0, "clear"), (5, "start"), (10, "lap"), (20, "halt"), (30, "start")])

    def test_those_of_one_moment_stand_by_their_numbers(self):
        log = log_of((5, "start"), (5, "halt"), (7, "lap"), (5, "clear"), (5, "lap"))
        self.assertEqual(log.deeds(), [(5, "start"), (5, "halt"), (5, "clear"), (5, "lap"), (7, "lap")])
        log = log_of(*[(5, "start"), (5, "clear")] * 6)
        self.assertEqual(log.deeds(), [(5, "start"), (5, "clear")] * 6)

    def test_untell(self):
        log = log_of((5, "start"), (10, "lap"), (20, "halt"))
        self.assertIsNone(log.untell(1))
        self.assertEqual(log.deeds(), [(5, "start"), (20, "halt")])
        self.assertEqual(log.watch_at(20), (15, None, ()))
        log.untell(2)
        self.assertEqual(log.deeds(), [(5, "start")])
        self.assertEqual(log.runs(), [(5, None)])
        log.untell(0)
        self.assertEqual(log.deeds(), [])

    def test_numbers_are_not_given_again(self):
        log = log_of((5, "start"), (10, "lap"))
        log.untell(1)
        self.assertEqual(log.tell(6, "halt"), 2)
        log.untell(2)
        log.untell(0)
        self.assertEqual(log.tell(6, "halt"), 3)
        self.assertEqual(log.deeds(), [(6, "halt")])
        for number in (0, 1, 2):
            self.assertRaises(NoClock, log.untell, number)

    def test_move(self):
        log = log_of((5, "start"), (10, "lap"), (20, "halt"))
        self.assertIsNone(log.move(1, 30))
        self.assertEqual(log.deeds(), [(5, "start"), (20, "halt"), (30, "lap")])
        log.move(0, 0)
        log.move(2, 20)
        self.assertEqual(log.deeds(), [(0, "start"), (20, "halt"), (30, "lap")])
        self.assertEqual(log.watch_at(30), (20, None, (20,)))

    def test_a_moved_deed_goes_ahead_of_others_or_behind_them_by_its_number(self):
        log = log_of((1, "start"), (5, "halt"), (9, "clear"))
        log.move(0, 5)
        self.assertEqual(log.deeds(), [(5, "start"), (5, "halt"), (9, "clear")])
        log.move(2, 5)
        self.assertEqual(log.deeds(), [(5, "start"), (5, "halt"), (5, "clear")])
        log = log_of((5, "start"), (7, "lap"), (5, "halt"), (1, "clear"))
        log.move(1, 5)
        self.assertEqual(log.deeds(), [(1, "clear"), (5, "start"), (5, "lap"), (5, "halt")])
        log.move(3, 5)
        self.assertEqual(log.deeds(), [(5, "start"), (5, "lap"), (5, "halt"), (5, "clear")])

    def test_a_moved_deed_keeps_its_number(self):
        log = log_of((5, "start"), (10, "lap"))
        log.move(0, 20)
        log.move(0, 2)
        log.untell(0)
        self.assertEqual(log.deeds(), [(10, "lap")])
        self.assertEqual(log.tell(1, "start"), 2)

    def test_no_clock(self):
        self.assertRaises(NoClock, Log().untell, 0)
        self.assertRaises(NoClock, Log().move, 0, 5)
        log = log_of((5, "start"), (10, "lap"), (20, "halt"))
        log.untell(1)
        for number in (1, 3, 4, 100, -1, -3):
            self.assertRaises(NoClock, log.untell, number)
            self.assertRaises(NoClock, log.move, number, 7)
        self.assertEqual(log.deeds(), [(5, "start"), (20, "halt")])
        self.assertEqual(log.tell(6, "lap"), 3)

    def test_told_lists_are_new_ones(self):
        log = log_of((5, "start"), (10, "halt"))
        first = log.deeds()
        log.deeds().clear()
        log.runs().append((20, None))
        log.tell(7, "lap")
        self.assertEqual(first, [(5, "start"), (10, "halt")])
        self.assertEqual(log.deeds(), [(5, "start"), (7, "lap"), (10, "halt")])
        self.assertEqual(log.runs(), [(5, 10)])

    def test_each_log_goes_by_itself(self):
        log_of((5, "start"))
        self.assertEqual(Log().deeds(), [])
        self.assertEqual(Log().tell(1, "lap"), 0)


class WatchAt(unittest.TestCase):
    def test_ahead_of_all_deeds(self):
        log = log_of((5, "start"), (9, "lap"))
        for moment in (0, 4):
            self.assertEqual(log.watch_at(moment), (0, None, ()))
            self.assertEqual(log.shown_at(moment), 0)

    def test_at_between_and_behind(self):
        log = log_of((5, "start"), (20, "halt"), (30, "start"), (12, "lap"), (40, "clear"))
        rows = {5: (0, 5, ()), 11: (0, 5, ()), 12: (0, 5, (7,)), 19: (0, 5, (7,)), 20: (15, None, (7,)),
                29: (15, None, (7,)), 30: (15, 30, (7,)), 39: (15, 30, (7,)), 40: (0, 40, ()), 99: (0, 40, ())}
        for moment, watch in rows.items():
            self.assertEqual(log.watch_at(moment), watch)
        shows = {4: 0, 5: 0, 6: 1, 12: 7, 20: 15, 29: 15, 30: 15, 39: 24, 40: 0, 99: 59}
        for moment, size in shows.items():
            self.assertEqual(log.shown_at(moment), size)

    def test_all_deeds_of_the_moment_count(self):
        log = log_of((5, "start"), (9, "lap"), (9, "halt"), (9, "lap"))
        self.assertEqual(log.watch_at(9), (4, None, (4, 4)))
        log.tell(9, "clear")
        self.assertEqual(log.watch_at(9), (0, None, ()))
        self.assertEqual(log.watch_at(8), (0, 5, ()))

    def test_a_deed_told_late_counts(self):
        log = log_of((5, "start"), (25, "lap"))
        self.assertEqual(log.watch_at(25), (0, 5, (20,)))
        log.tell(10, "halt")
        self.assertEqual(log.watch_at(25), (5, None, (5,)))
        log.tell(20, "start")
        self.assertEqual(log.watch_at(25), (5, 20, (10,)))
        log.move(2, 15)
        self.assertEqual(log.watch_at(25), (10, 20, (15,)))
        log.untell(0)
        self.assertEqual(log.watch_at(25), (0, 20, (5,)))

    def test_asking_changes_nothing(self):
        log = log_of((5, "start"), (9, "clear"))
        log.watch_at(7)
        log.shown_at(100)
        log.watch_at(3)
        self.assertEqual(log.deeds(), [(5, "start"), (9, "clear")])


class Runs(unittest.TestCase):
    def test_with_an_end_and_without(self):
        self.assertEqual(log_of((5, "start"), (20, "halt")).runs(), [(5, 20)])
        self.assertEqual(log_of((5, "start")).runs(), [(5, None)])
        self.assertEqual(log_of((5, "start"), (20, "halt"), (30, "start")).runs(), [(5, 20), (30, None)])

    def test_told_in_another_order(self):
        self.assertEqual(log_of((30, "start"), (20, "halt"), (40, "halt"), (5, "start")).runs(), [(5, 20), (30, 40)])

    def test_what_does_not_start_or_halt_it(self):
        log = log_of((1, "halt"), (2, "lap"), (5, "start"), (7, "start"), (9, "lap"), (20, "halt"), (22, "halt"))
        self.assertEqual(log.runs(), [(5, 20)])

    def test_empty_ones_are_left_out(self):
        self.assertEqual(log_of((5, "start"), (5, "halt")).runs(), [])
        self.assertEqual(log_of((5, "start"), (5, "halt"), (5, "start"), (5, "halt")).runs(), [])
        self.assertEqual(log_of((1, "start"), (3, "halt"), (5, "start"), (5, "halt"), (9, "start"), (12, "halt")).runs(),
                         [(1, 3), (9, 12)])

    def test_touching_ones_are_put_together(self):
        log = log_of((1, "start"), (5, "halt"), (5, "start"), (9, "halt"))
        self.assertEqual(log.runs(), [(1, 9)])
        log.tell(9, "start")
        self.assertEqual(log.runs(), [(1, None)])
        log.tell(9, "halt")
        self.assertEqual(log.runs(), [(1, 9)])
        log.tell(10, "start")
        self.assertEqual(log.runs(), [(1, 9), (10, None)])

    def test_touching_ones_behind_others(self):
        log = log_of((1, "start"), (3, "halt"), (5, "start"), (7, "halt"), (7, "start"), (9, "halt"))
        self.assertEqual(log.runs(), [(1, 3), (5, 9)])
        log.tell(9, "start")
        self.assertEqual(log.runs(), [(1, 3), (5, None)])

    def test_touching_and_empty_ones(self):
        log = log_of((1, "start"), (5, "halt"), (5, "start"), (5, "halt"))
        self.assertEqual(log.runs(), [(1, 5)])
        log.tell(5, "start")
        log.tell(8, "halt")
        self.assertEqual(log.runs(), [(1, 8)])
        log = log_of((5, "start"), (5, "halt"), (5, "start"))
        self.assertEqual(log.runs(), [(5, None)])

    def test_a_clearing_while_it_runs(self):
        log = log_of((5, "start"), (9, "clear"), (20, "halt"))
        self.assertEqual(log.runs(), [(5, 20)])
        self.assertEqual(log.ran(0, 30), 15)
        self.assertEqual(log.shown_at(30), 11)
        self.assertEqual(log_of((5, "start"), (9, "clear")).runs(), [(5, None)])
        self.assertEqual(log_of((0, "clear"), (5, "start"), (8, "halt"), (9, "clear")).runs(), [(5, 8)])

    def test_behind_untell_and_move(self):
        log = log_of((5, "start"), (20, "halt"))
        log.move(1, 5)
        self.assertEqual(log.runs(), [])
        log.move(0, 6)
        self.assertEqual(log.runs(), [(6, None)])
        log.untell(0)
        self.assertEqual(log.runs(), [])


class Ran(unittest.TestCase):
    def test_parts_of_a_run(self):
        log = log_of((10, "start"), (20, "halt"))
        rows = {(0, 30): 10, (10, 20): 10, (0, 10): 0, (20, 30): 0, (0, 11): 1, (19, 30): 1, (12, 15): 3, (5, 15): 5,
                (15, 25): 5, (0, 5): 0, (25, 30): 0, (15, 15): 0, (10, 10): 0, (0, 0): 0}
        for (start, end), size in rows.items():
            self.assertEqual(log.ran(start, end), size, (start, end))

    def test_a_run_without_an_end(self):
        log = log_of((10, "start"))
        rows = {(0, 10): 0, (0, 5): 0, (0, 11): 1, (10, 30): 20, (15, 30): 15, (30, 30): 0, (0, 10 ** 30): 10 ** 30 - 10}
        for (start, end), size in rows.items():
            self.assertEqual(log.ran(start, end), size, (start, end))

    def test_over_several_runs(self):
        log = log_of((10, "start"), (20, "halt"), (30, "start"), (40, "halt"), (50, "start"))
        rows = {(0, 60): 30, (15, 35): 10, (20, 30): 0, (15, 55): 20, (12, 13): 1}
        for (start, end), size in rows.items():
            self.assertEqual(log.ran(start, end), size, (start, end))


if __name__ == "__main__":
    unittest.main()
