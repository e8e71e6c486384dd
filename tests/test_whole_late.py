"""Promise 0.2 (a) of logs, (h) to (k): what holds over all that is there; drawn cases, the same in each run."""

import random
import unittest

from latebells.diaries import Diary
from latebells.diarytexts import diary_text, read_diary
from latebells.errors import NoClock, NoStep, NoText, Taken
from latebells.freeing import first_free, most_at_once, shared_by
from latebells.logs import Log
from latebells.spells import (are_spells, between, both, either, gaps, is_in, later, length, only_first, spells_of)
from latebells.texts import laps_text, read_laps, read_time, time_text
from latebells.turns import Turns
from latebells.watches import is_watch, lap_sizes, played, shown

WORDS = ("start", "start", "halt", "lap", "clear")


class Logs(unittest.TestCase):
    # Whether the watch runs from each moment on, straight as the deeds tell it.
    def running_moments(self, rows, end):
        runs, told = False, []
        for moment in range(end):
            for then, number, word in rows:
                if then == moment:
                    runs = {"start": True, "halt": False}.get(word, runs)
            if runs:
                told.append(moment)
        return told, runs

    def test_deeds_told_taken_back_and_moved(self):
        draw = random.Random(21)
        for _ in range(150):
            self.run_one(draw)

    def run_one(self, draw):
        log, rows, told = Log(), {}, 0
        for _ in range(draw.randint(0, 25)):
            number, moment = draw.randint(0, told + 1), draw.randint(0, 30)
            word = draw.choice(("tell", "tell", "tell", "untell", "move"))
            if word == "tell":
                rows[told] = (moment, draw.choice(WORDS))
                self.assertEqual(log.tell(*rows[told]), told)
                told += 1
            elif number not in rows:
                self.assertRaises(NoClock, log.untell, number)
                self.assertRaises(NoClock, log.move, number, moment)
            elif word == "untell":
                log.untell(number)
                rows.pop(number)
            else:
                log.move(number, moment)
                rows[number] = (moment, rows[number][1])
        self.check(draw, log, sorted((moment, number, word) for number, (moment, word) in rows.items()))

    def check(self, draw, log, rows):
        self.assertEqual(log.deeds(), [(moment, word) for moment, number, word in rows])
        moments, runs = self.running_moments(rows, 40)
        told = log.runs()
        self.assertEqual([run[1] is None for run in told], [False] * (len(told) - runs) + [True] * runs)
        spans = [(start, 40 if till is None else till) for start, till in told]
        self.assertTrue(all(start < till for start, till in spans))
        self.assertTrue(all(one[1] < other[0] for one, other in zip(spans, spans[1:])))
        self.assertEqual([moment for span in spans for moment in range(*span)], moments)
        for _ in range(10):
            start, end = sorted((draw.randint(0, 40), draw.randint(0, 40)))
            self.assertEqual(log.ran(start, end), sum(start <= moment < end for moment in moments))
        for moment in range(0, 40, 3):
            self.check_watch(log, rows, moment)

    def check_watch(self, log, rows, moment):
        watch = log.watch_at(moment)
        deeds = [(then, word) for then, number, word in rows if then <= moment]
        self.assertEqual(watch, played(deeds))
        self.assertTrue(is_watch(watch))
        self.assertEqual(log.shown_at(moment), shown(watch, moment))
        last_clear = max([then for then, word in deeds if word == "clear"], default=0)
        self.assertEqual(log.shown_at(moment), log.ran(last_clear, moment))
        words = [word for then, word in deeds]
        behind_clear = deeds[len(words) - words[::-1].index("clear"):] if "clear" in words else deeds
        laps = [then for then, word in behind_clear if word == "lap"]
        self.assertEqual(sum(lap_sizes(watch)), log.ran(last_clear, laps[-1]) if laps else 0)

    def test_in_whatever_order_the_deeds_were_told(self):
        draw = random.Random(22)
        for _ in range(100):
            deeds = [(moment, draw.choice(WORDS)) for moment in draw.sample(range(50), draw.randint(0, 12))]
            logs = []
            for _ in range(3):
                draw.shuffle(deeds)
                log = Log()
                for moment, word in deeds:
                    log.tell(moment, word)
                logs.append(log)
            for log in logs:
                self.assertEqual(log.deeds(), sorted(deeds))
                self.assertEqual(log.runs(), logs[0].runs())
                self.assertEqual([log.watch_at(now) for now in range(50)], [logs[0].watch_at(now) for now in range(50)])
                self.assertEqual([log.shown_at(now) for now in range(50)], [logs[0].shown_at(now) for now in range(50)])


class BothSides(unittest.TestCase):
    def test_used_left_and_brought(self):
        draw = random.Random(23)
        for _ in range(400):
            self.run_one(draw)

    # A side has what it had and what was brought to it, less one for each moment in which its clock ran.
    def run_one(self, draw):
        began, more = [draw.randint(1, 15), draw.randint(1, 15)], draw.randint(0, 4)
        game, used, brought, side, fell = Turns(*began, more), [0, 0], [0, 0], None, None
        took, turns = 0, []
        for now in range(60):
            for _ in range(draw.choice((0, 1, 1, 2))):
                word = draw.choice(("begin", "press", "press", "ask"))
                if word == "begin":
                    first = draw.randint(0, 1)
                    self.assertIs(game.begin(first, now), side is None)
                    side = first if side is None else side
                elif word == "press":
                    self.assertIs(game.press(now), side is not None and fell is None)
                    if side is not None and fell is None:
                        turns.append((side, took))
                        brought[side], side, took = brought[side] + more, 1 - side, 0
                else:
                    self.assertEqual(game.fell(now), fell)
                    self.assertEqual(game.running(now), side if fell is None else None)
                left = [game.left_of(own, now) for own in (0, 1)]
                self.assertEqual([left[own] + used[own] for own in (0, 1)], [began[own] + brought[own] for own in (0, 1)])
                self.assertEqual(game.turns(), turns)
            if side is not None and fell is None:
                used[side], took = used[side] + 1, took + 1
                fell = (side, now + 1) if used[side] == began[side] + brought[side] else None
        self.assertEqual(game.fell(60), fell)


class Texts(unittest.TestCase):
    # Reads texts that are one sign off a writing: each is a writing itself, or refused.
    def check_nearly(self, draw, text, read, write):
        for _ in range(25):
            place, sign = draw.randint(0, len(text)), draw.choice("0123456789: -+abz~\n")
            near = draw.choice((text[:place] + sign + text[place:], text[:place] + sign + text[place + 1:],
                                text[:place] + text[place + 1:], text[place:] + text[:place]))
            try:
                told = read(near)
            except NoText:
                continue
            self.assertEqual(write(told), near)

    def test_times_read_back_as_what_they_write_and_as_nothing_else(self):
        draw = random.Random(24)
        for _ in range(1000):
            seconds = draw.randint(0, 36 * 10 ** draw.randint(0, 8) - 1)
            self.assertEqual(read_time(time_text(seconds)), seconds)
            self.check_nearly(draw, time_text(seconds), read_time, time_text)

    def test_all_times_of_some_hours(self):
        for seconds in range(2 * 3600):
            self.assertEqual(read_time(time_text(seconds)), seconds)

    def test_laps_read_back_as_what_they_write_and_as_nothing_else(self):
        draw = random.Random(25)
        for _ in range(500):
            sizes = [draw.randint(0, 10 ** draw.randint(0, 9)) for _ in range(draw.randint(0, 12))]
            self.assertEqual(read_laps(laps_text(sizes)), sizes)
            self.check_nearly(draw, laps_text(sizes), read_laps, laps_text)

    def test_diaries_read_back_as_what_they_write_and_as_nothing_else(self):
        draw = random.Random(26)
        for _ in range(500):
            diary = Diary()
            cuts = sorted(draw.sample(range(10 ** draw.randint(2, 9)), 2 * draw.randint(0, 4)))
            for start, till in zip(cuts[::2], cuts[1::2]):
                diary.add("".join(draw.choices("abz", k=draw.randint(1, 4))), start, till)
            told = read_diary(diary_text(diary))
            self.assertEqual((told.stretches(), told.counts()), (diary.stretches(), (0, 0)))
            self.check_nearly(draw, diary_text(diary), read_diary, diary_text)


class Spells(unittest.TestCase):
    def drawn(self, draw):
        cuts = sorted(draw.sample(range(40), 2 * draw.randint(0, 6)))
        return list(zip(cuts[::2], cuts[1::2]))

    def check(self, told, moments):
        self.assertIs(are_spells(told), True)
        self.assertEqual([moment for moment in range(90) if is_in(told, moment)], sorted(moments))
        self.assertEqual(length(told), len(moments))

    def moments(self, spells):
        return {moment for start, till in spells for moment in range(start, till)}

    def test_a_moment_is_in_spells_put_together_just_if_it_is_as_told(self):
        draw = random.Random(27)
        for _ in range(500):
            one, other = self.drawn(draw), self.drawn(draw)
            self.check(one, self.moments(one))
            have, others = self.moments(one), self.moments(other)
            self.check(either(one, other), have | others)
            self.check(both(one, other), have & others)
            self.check(only_first(one, other), have - others)
            start, end = draw.randint(0, 42), draw.randint(0, 42)
            self.check(between(one, start, end), have & set(range(start, end)))
            self.check(later(one, start), {moment + start for moment in have})
            self.check(gaps(one), set(range(min(have), max(have) + 1)) - have if have else set())

    def drawn_rows(self, draw):
        return [(draw.randint(0, 40), draw.randint(0, 40)) for _ in range(draw.randint(0, 8))]

    def test_spells_of(self):
        draw = random.Random(28)
        for _ in range(500):
            rows = self.drawn_rows(draw)
            self.check(spells_of(rows), self.moments(rows))

    def test_rows_of_spells(self):
        draw = random.Random(29)
        for _ in range(500):
            rows = [spells_of(self.drawn_rows(draw)) for _ in range(draw.randint(0, 4))]
            many = [sum(is_in(spells, moment) for spells in rows) for moment in range(60)]
            most = max(many)
            self.assertEqual(most_at_once(rows), (most, many.index(most)) if most else None)
            for least in range(1, 6):
                self.check(shared_by(rows, least), [moment for moment in range(60) if many[moment] >= least])
            size, start = draw.randint(1, 12), draw.randint(0, 45)
            free = [moment for moment in range(start, 48) if not any(many[moment:moment + size])]
            self.assertEqual(first_free(rows, size, start), free[0])


# A diary that keeps all that was there ahead of each step, as whole dicts by moments.
class SlowDiary:
    def __init__(self):
        self.ahead, self.now, self.behind = [], {}, []

    def step(self, word, there):
        self.ahead.append((self.now, word))
        self.now, self.behind = there, []

    def back(self):
        there, word = self.ahead.pop()
        self.behind.append((self.now, word))
        self.now = there
        return word

    def forth(self):
        there, word = self.behind.pop()
        self.ahead.append((self.now, word))
        self.now = there
        return word

    def twin(self):
        other = SlowDiary()
        other.ahead, other.now, other.behind = list(self.ahead), self.now, list(self.behind)
        return other


class Diaries(unittest.TestCase):
    def test_back_and_forth_step_by_step(self):
        draw = random.Random(30)
        for _ in range(100):
            pairs = [(Diary(), SlowDiary())]
            for _ in range(60):
                self.do_one(draw, pairs)
            for diary, slow in pairs:
                self.check(draw, diary, slow)

    def do_one(self, draw, pairs):
        diary, slow = draw.choice(pairs)
        word = draw.choice(("add", "add", "add", "cancel", "back", "back", "forth", "forth", "twin"))
        start = draw.randint(0, 40)
        if word == "add":
            self.add_one(diary, slow, (draw.choice("abc"), start, start + draw.randint(1, 9)))
        elif word == "cancel":
            self.cancel_one(diary, slow, start)
        elif word == "twin" and len(pairs) < 4:
            pairs.append((diary.twin(), slow.twin()))
        elif word in ("back", "forth"):
            if slow.ahead if word == "back" else slow.behind:
                self.assertEqual(getattr(diary, word)(), getattr(slow, word)())
            else:
                self.assertRaises(NoStep, getattr(diary, word))
        self.assertEqual(diary.stretches(), sorted(set(slow.now.values()), key=lambda stretch: stretch[1]))
        self.assertEqual(diary.counts(), (len(slow.ahead), len(slow.behind)))

    def add_one(self, diary, slow, stretch):
        moments = range(stretch[1], stretch[2])
        if any(moment in slow.now for moment in moments):
            self.assertRaises(Taken, diary.add, *stretch)
        else:
            diary.add(*stretch)
            slow.step("add", slow.now | {moment: stretch for moment in moments})

    def cancel_one(self, diary, slow, start):
        stretch = slow.now.get(start)
        if stretch is None or stretch[1] != start:
            self.assertRaises(NoClock, diary.cancel, start)
        else:
            self.assertEqual(diary.cancel(start), stretch)
            slow.step("cancel", {moment: own for moment, own in slow.now.items() if own != stretch})

    def check(self, draw, diary, slow):
        told = diary.stretches()
        self.assertTrue(all(one[2] <= other[1] for one, other in zip(told, told[1:])))
        for name in "abc":
            spells = diary.spells_by(name)
            self.assertIs(are_spells(spells), True)
            self.assertEqual([moment for moment in range(60) if is_in(spells, moment)],
                             sorted(moment for moment, own in slow.now.items() if own[0] == name))
        size, start = draw.randint(1, 9), draw.randint(0, 50)
        moment = diary.next_free(size, start)
        for then in range(start, moment + 1):
            self.assertIs(any(one in slow.now for one in range(then, then + size)), then < moment)


if __name__ == "__main__":
    unittest.main()
