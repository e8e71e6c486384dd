"""Promise 0.2 (a) of logs, (h) and (i): what holds over all that is there; drawn cases, the same in each run."""

import random
import unittest

from latebells.errors import NoClock, NoText
from latebells.logs import Log
from latebells.texts import laps_text, read_laps, read_time, time_text
from latebells.turns import Turns
from latebells.watches import is_watch, lap_sizes, played, shown

WORDS = ("start", "start", "halt", "lap", "clear")


class Logs(unittest.TestCase):
    # Whether the watch runs from each moment on, straight as the deeds tell it.
    def running_moments(self, rows, end):
        runs, told = False, []
        for moment in range(end):
            for then, number, word in rows:
                if then == moment:
                    runs = {"start": True, "halt": False}.get(word, runs)
            if runs:
                told.append(moment)
        return told, runs

    def test_deeds_told_taken_back_and_moved(self):
        draw = random.Random(21)
        for _ in range(150):
            self.run_one(draw)

    def run_one(self, draw):
        log, rows, told = Log(), {}, 0
        for _ in range(draw.randint(0, 25)):
            number, moment = draw.randint(0, told + 1), draw.randint(0, 30)
            word = draw.choice(("tell", "tell", "tell", "untell", "move"))
            if word == "tell":
                rows[told] = (moment, draw.choice(WORDS))
                self.assertEqual(log.tell(*rows[told]), told)
                told += 1
            elif number not in rows:
                self.assertRaises(NoClock, log.untell, number)
                self.assertRaises(NoClock, log.move, number, moment)
            elif word == "untell":
                log.untell(number)
                rows.pop(number)
            else:
                log.move(number, moment)
                rows[number] = (moment, rows[number][1])
        self.check(draw, log, sorted((moment, number, word) for number, (moment, word) in rows.items()))

    def check(self, draw, log, rows):
        self.assertEqual(log.deeds(), [(moment, word) for moment, number, word in rows])
        moments, runs = self.running_moments(rows, 40)
        told = log.runs()
        self.assertEqual([run[1] is None for run in told], [False] * (len(told) - runs) + [True] * runs)
        spans = [(start, 40 if till is None else till) for start, till in told]
        self.assertTrue(all(start < till for start, till in spans))
        self.assertTrue(all(one[1] < other[0] for one, other in zip(spans, spans[1:])))
        self.assertEqual([moment for span in spans for moment in range(*span)], moments)
        for _ in range(10):
            start, end = sorted((draw.randint(0, 40), draw.randint(0, 40)))
            self.assertEqual(log.ran(start, end), sum(start <= moment < end for moment in moments))
        for moment in range(0, 40, 3):
            self.check_watch(log, rows, moment)

    def check_watch(self, log, rows, moment):
        watch = log.watch_at(moment)
        deeds = [(then, word) for then, number, word in rows if then <= moment]
        self.assertEqual(watch, played(deeds))
        self.assertTrue(is_watch(watch))
        self.assertEqual(log.shown_at(moment), shown(watch, moment))
        last_clear = max([then for then, word in deeds if word == "clear"], default=0)
        self.assertEqual(log.shown_at(moment), log.ran(last_clear, moment))
        words = [word for then, word in deeds]
        behind_clear = deeds[len(words) - words[::-1].index("clear"):] if "clear" in words else deeds
        laps = [then for then, word in behind_clear if word == "lap"]
        self.assertEqual(sum(lap_sizes(watch)), log.ran(last_clear, laps[-1]) if laps else 0)

    def test_in_whatever_order_the_deeds_were_told(self):
        draw = random.Random(22)
        for _ in range(100):
            deeds = [(moment, draw.choice(WORDS)) for moment in draw.sample(range(50), draw.randint(0, 12))]
            logs = []
            for _ in range(3):
                draw.shuffle(deeds)
                log = Log()
                for moment, word in deeds:
                    log.tell(moment, word)
                logs.append(log)
            for log in logs:
                self.assertEqual(log.deeds(), sorted(deeds))
                self.assertEqual(log.runs(), logs[0].runs())
                self.assertEqual([log.watch_at(now) for now in range(50)], [logs[0].watch_at(now) for now in range(50)])
                self.assertEqual([log.shown_at(now) for now in range(50)], [logs[0].shown_at(now) for now in range(50)])


class BothSides(unittest.TestCase):
    def test_used_left_and_brought(self):
        draw = random.Random(23)
        for _ in range(400):
            self.run_one(draw)

    # A side has what it had and what was brought to it, less one for each moment in which its clock ran.
    def run_one(self, draw):
        began, more = [draw.randint(1, 15), draw.randint(1, 15)], draw.randint(0, 4)
        game, used, brought, side, fell = Turns(*began, more), [0, 0], [0, 0], None, None
        took, turns = 0, []
        for now in range(60):
            for _ in range(draw.choice((0, 1, 1, 2))):
                word = draw.choice(("begin", "press", "press", "ask"))
                if word == "begin":
                    first = draw.randint(0, 1)
                    self.assertIs(game.begin(first, now), side is None)
                    side = first if side is None else side
                elif word == "press":
                    self.assertIs(game.press(now), side is not None and fell is None)
                    if side is not None and fell is None:
                        turns.append((side, took))
                        brought[side], side, took = brought[side] + more, 1 - side, 0
                else:
                    self.assertEqual(game.fell(now), fell)
                    self.assertEqual(game.running(now), side if fell is None else None)
                left = [game.left_of(own, now) for own in (0, 1)]
                self.assertEqual([left[own] + used[own] for own in (0, 1)], [began[own] + brought[own] for own in (0, 1)])
                self.assertEqual(game.turns(), turns)
            if side is not None and fell is None:
                used[side], took = used[side] + 1, took + 1
                fell = (side, now + 1) if used[side] == began[side] + brought[side] else None
        self.assertEqual(game.fell(60), fell)


class Texts(unittest.TestCase):
    # Reads texts that are one sign off a writing: each is a writing itself, or refused.
    def check_nearly(self, draw, text, read, write):
        for _ in range(25):
            place, sign = draw.randint(0, len(text)), draw.choice("0123456789: -+az~\n")
            near = draw.choice((text[:place] + sign + text[place:], text[:place] + sign + text[place + 1:],
                                text[:place] + text[place + 1:], text[place:] + text[:place]))
            try:
                told = read(near)
            except NoText:
                continue
            self.assertEqual(write(told), near)

    def test_times_read_back_as_what_they_write_and_as_nothing_else(self):
        draw = random.Random(24)
        for _ in range(1000):
            seconds = draw.randint(0, 36 * 10 ** draw.randint(0, 8) - 1)
            self.assertEqual(read_time(time_text(seconds)), seconds)
            self.check_nearly(draw, time_text(seconds), read_time, time_text)

    def test_all_times_of_some_hours(self):
        for seconds in range(2 * 3600):
            self.assertEqual(read_time(time_text(seconds)), seconds)

    def test_laps_read_back_as_what_they_write_and_as_nothing_else(self):
        draw = random.Random(25)
        for _ in range(500):
            sizes = [draw.randint(0, 10 ** draw.randint(0, 9)) for _ in range(draw.randint(0, 12))]
            self.assertEqual(read_laps(laps_text(sizes)), sizes)
            self.check_nearly(draw, laps_text(sizes), read_laps, laps_text)


if __name__ == "__main__":
    unittest.main()
