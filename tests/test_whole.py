"""Promise 0.2 (a), (b), (c): what holds over all watches, timers and rings; drawn cases, the same in each run."""

import random
import unittest

from latebells.clocks import (anew, begun, how_many, is_clock, left_at, longer, next_ring, rings, skipped, stopped,
                              timer)
from latebells.watches import (cleared, fresh, halted, is_watch, lap_sizes, lapped, played, shown, started, when_shown)

WORDS = {"start": started, "halt": halted, "lap": lapped, "clear": cleared}


class Watches(unittest.TestCase):
    def test_a_watch_shows_as_much_as_it_ran(self):
        draw = random.Random(1)
        for _ in range(300):
            self.run_one(draw)

    def run_one(self, draw):
        watch, ran, runs, last_lap, deeds = fresh(), 0, False, 0, []
        for now in range(draw.randint(0, 3), 40):
            for _ in range(draw.choice((0, 0, 0, 1, 1, 2))):
                word = draw.choice(sorted(WORDS))
                deeds.append((now, word))
                watch = WORDS[word](watch, now)
                runs = {"start": True, "halt": False}.get(word, runs)
                ran = 0 if word == "clear" else ran
                last_lap = {"clear": 0, "lap": ran}.get(word, last_lap)
            self.assertTrue(is_watch(watch))
            self.assertEqual(shown(watch, now), ran)
            self.assertEqual(sum(lap_sizes(watch)), last_lap)
            self.assertEqual(when_shown(watch, ran), now if runs else None)
            self.assertEqual(played(deeds), watch)
            ran += 1 if runs else 0


class Timers(unittest.TestCase):
    def test_left_gone_and_put_come_to_the_size(self):
        draw = random.Random(2)
        for _ in range(300):
            self.run_one(draw)

    def run_one(self, draw):
        size = draw.randint(0, 12)
        clock, gone, put, runs = timer(size), 0, 0, False
        for now in range(40):
            left = size + put - gone
            self.assertEqual(left_at(clock, now), left)
            self.assertEqual(next_ring(clock, now), now + left if runs and left else None)
            word = draw.choice(("", "", "", "", "begin", "begin", "stop", "longer", "anew"))
            if word == "begin":
                clock, runs = begun(clock, now), True
            elif word == "stop":
                clock, runs = stopped(clock, now), False
            elif word == "longer":
                by = draw.randint(-6, 6)
                clock = longer(clock, by, now)
                put += max(by, -left)
            elif word == "anew":
                clock, gone, put = anew(clock, now), 0, 0
            self.assertTrue(is_clock(clock))
            if runs and size + put - gone > 0:
                gone += 1

    def test_it_rings_once_when_nothing_is_left(self):
        for size in range(5):
            for since in range(4):
                clock = begun(timer(size), since)
                empty = [now for now in range(since, 30) if left_at(clock, now) == 0]
                self.assertEqual(rings(clock, -1, 30), empty[:1])
                self.assertEqual(how_many(clock, -1, 30), 1)


class Rings(unittest.TestCase):
    def drawn(self, draw):
        kind = draw.choice(("timer", "every", "alarm"))
        if kind == "timer":
            return ("timer", draw.randint(0, 90), draw.randint(0, 9000), draw.choice((None, 0, 7, 20000)))
        if kind == "every":
            return ("every", draw.choice((0, 1, 5000)), draw.choice((1, 2, 77, 1440, 9999)), draw.choice((None, 0, 1, 2, 30)))
        clock = ("alarm", draw.choice((0, 1, 700, 1439)), tuple(sorted(draw.sample(range(7), draw.randint(0, 7)))), ())
        for _ in range(draw.randint(0, 4)):
            clock = skipped(clock, draw.randint(0, 20000))
        return clock

    def test_the_next_ring_and_the_parts_of_a_stretch(self):
        draw = random.Random(3)
        for _ in range(400):
            clock = self.drawn(draw)
            self.assertTrue(is_clock(clock))
            cuts = sorted([draw.randint(0, 30000) for _ in range(3)])
            told = rings(clock, cuts[0], cuts[2])
            self.assertEqual(told, sorted(set(told)))
            self.assertTrue(all(cuts[0] < moment <= cuts[2] for moment in told))
            self.assertEqual(told, rings(clock, cuts[0], cuts[1]) + rings(clock, cuts[1], cuts[2]))
            self.assertEqual(how_many(clock, cuts[0], cuts[2]), len(told))
            self.check_next(clock, cuts[0], cuts[2], told)

    def check_next(self, clock, start, end, told):
        moment = next_ring(clock, start)
        if told:
            self.assertEqual(moment, told[0])
        else:
            self.assertTrue(moment is None or moment > end)
        if moment is not None:
            self.assertEqual(rings(clock, start, moment), [moment])
            self.assertEqual(how_many(clock, start, moment - 1), 0)
        for one, other in zip(told[:50], told[1:]):
            self.assertEqual(next_ring(clock, one), other)
            self.assertEqual(next_ring(clock, other - 1), other)


if __name__ == "__main__":
    unittest.main()
