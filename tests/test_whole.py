"""Promise 0.2 (a) to (g): what holds over all that is there; drawn cases, the same in each run."""

import fractions
import math
import random
import unittest

from latebells.bells import Bell
from latebells.clocks import (anew, begun, how_many, is_clock, last_ring, left_at, longer, next_ring, rings, skipped,
                              stopped, timer)
from latebells.errors import Asleep, Awake, Early, NoClock
from latebells.houses import House
from latebells.paces import faster, first_showing, floor_read, gap, meet, reads, set_to
from latebells.rounds import left_of_phase, place_at, round_size, starts, time_in, when, whole_size
from latebells.watches import (cleared, fresh, halted, is_watch, lap_sizes, lapped, played, shown, started, when_shown)

WORDS = {"start": started, "halt": halted, "lap": lapped, "clear": cleared}


class Watches(unittest.TestCase):
    def test_a_watch_shows_as_much_as_it_ran(self):
        draw = random.Random(1)
        for _ in range(300):
            self.run_one(draw)

    def run_one(self, draw):
        watch, ran, runs, last_lap, deeds = fresh(), 0, False, 0, []
        for now in range(draw.randint(0, 3), 40):
            for _ in range(draw.choice((0, 0, 0, 1, 1, 2))):
                word = draw.choice(sorted(WORDS))
                deeds.append((now, word))
                watch = WORDS[word](watch, now)
                runs = {"start": True, "halt": False}.get(word, runs)
                ran = 0 if word == "clear" else ran
                last_lap = {"clear": 0, "lap": ran}.get(word, last_lap)
            self.assertTrue(is_watch(watch))
            self.assertEqual(shown(watch, now), ran)
            self.assertEqual(sum(lap_sizes(watch)), last_lap)
            self.assertEqual(when_shown(watch, ran), now if runs else None)
            self.assertEqual(played(deeds), watch)
            ran += 1 if runs else 0


class Timers(unittest.TestCase):
    def test_left_gone_and_put_come_to_the_size(self):
        draw = random.Random(2)
        for _ in range(300):
            self.run_one(draw)

    def run_one(self, draw):
        size = draw.randint(0, 12)
        clock, gone, put, runs = timer(size), 0, 0, False
        for now in range(40):
            left = size + put - gone
            self.assertEqual(left_at(clock, now), left)
            self.assertEqual(next_ring(clock, now), now + left if runs and left else None)
            word = draw.choice(("", "", "", "", "begin", "begin", "stop", "longer", "anew"))
            if word == "begin":
                clock, runs = begun(clock, now), True
            elif word == "stop":
                clock, runs = stopped(clock, now), False
            elif word == "longer":
                by = draw.randint(-6, 6)
                clock = longer(clock, by, now)
                put += max(by, -left)
            elif word == "anew":
                clock, gone, put = anew(clock, now), 0, 0
            self.assertTrue(is_clock(clock))
            if runs and size + put - gone > 0:
                gone += 1

    def test_it_rings_once_when_nothing_is_left(self):
        for size in range(5):
            for since in range(4):
                clock = begun(timer(size), since)
                empty = [now for now in range(since, 30) if left_at(clock, now) == 0]
                self.assertEqual(rings(clock, -1, 30), empty[:1])
                self.assertEqual(how_many(clock, -1, 30), 1)


class Rings(unittest.TestCase):
    def drawn(self, draw):
        kind = draw.choice(("timer", "every", "alarm"))
        if kind == "timer":
            return ("timer", draw.randint(0, 90), draw.randint(0, 9000), draw.choice((None, 0, 7, 20000)))
        if kind == "every":
            return ("every", draw.choice((0, 1, 5000)), draw.choice((1, 2, 77, 1440, 9999)), draw.choice((None, 0, 1, 2, 30)))
        clock = ("alarm", draw.choice((0, 1, 700, 1439)), tuple(sorted(draw.sample(range(7), draw.randint(0, 7)))), ())
        for _ in range(draw.randint(0, 4)):
            clock = skipped(clock, draw.randint(0, 20000))
        return clock

    def test_the_next_ring_and_the_parts_of_a_stretch(self):
        draw = random.Random(3)
        for _ in range(400):
            clock = self.drawn(draw)
            self.assertTrue(is_clock(clock))
            cuts = sorted([draw.randint(0, 30000) for _ in range(3)])
            told = rings(clock, cuts[0], cuts[2])
            self.assertEqual(told, sorted(set(told)))
            self.assertTrue(all(cuts[0] < moment <= cuts[2] for moment in told))
            self.assertEqual(told, rings(clock, cuts[0], cuts[1]) + rings(clock, cuts[1], cuts[2]))
            self.assertEqual(how_many(clock, cuts[0], cuts[2]), len(told))
            self.check_next(clock, cuts[0], cuts[2], told)

    def check_next(self, clock, start, end, told):
        moment = next_ring(clock, start)
        if told:
            self.assertEqual(moment, told[0])
        else:
            self.assertTrue(moment is None or moment > end)
        if moment is not None:
            self.assertEqual(rings(clock, start, moment), [moment])
            self.assertEqual(how_many(clock, start, moment - 1), 0)
        if told:
            self.assertEqual(last_ring(clock, end), told[-1])
        for one, other in zip(told[:50], told[1:]):
            self.assertEqual(next_ring(clock, one), other)
            self.assertEqual(next_ring(clock, other - 1), other)


# A bell that is told of every moment, one by one, as 3.1 and 3.2 tell it.
class SlowBell:
    def __init__(self, longest):
        self.longest, self.begin, self.due, self.ended = longest, None, None, []

    def pass_moment(self, now):
        # Put off by 0 in its last deed of a moment, it rings since then, though only the next moment tells.
        if self.due in (now - 1, now):
            self.begin, self.due = self.due, None
        if self.begin is not None and self.begin + self.longest == now:
            self.end(now, "unheard")

    def end(self, now, how):
        self.ended.append((self.begin, now, how))
        self.begin = None

    def do(self, word, now, by):
        self.pass_moment(now)
        if word == "state":
            return "rings" if self.begin is not None else "still" if self.due is None else "waits"
        if word == "ring":
            if self.begin is not None:
                return False
            self.begin, self.due = now, None
            return True
        if word == "put_off":
            if self.begin is None:
                return False
            self.end(now, "put off")
            self.due = now + by
            return True
        did = self.begin is not None or self.due is not None
        if self.begin is not None:
            self.end(now, "silenced")
        self.due = None
        return did


class Bells(unittest.TestCase):
    def test_a_bell_goes_on_unasked_as_if_it_were_asked_at_each_moment(self):
        draw = random.Random(4)
        for _ in range(500):
            self.run_one(draw)

    def run_one(self, draw):
        longest = draw.randint(1, 6)
        bell, slow = Bell(longest), SlowBell(longest)
        seldom = draw.choice((1, 3, 12))
        for now in range(60):
            slow.pass_moment(now)
            for _ in range(draw.choice((1, 1, 2, 3)) if draw.randint(0, seldom) == 0 else 0):
                word, by = draw.choice(("ring", "ring", "silence", "put_off", "put_off", "state")), draw.randint(0, 9)
                told = bell.put_off(now, by) if word == "put_off" else getattr(bell, word)(now)
                self.assertEqual(told, slow.do(word, now, by))
                self.assertEqual(bell.heard(), slow.ended)
        bell.state(60)
        slow.pass_moment(60)
        self.check_ringings(bell, longest)
        self.assertEqual(bell.heard(), slow.ended)

    def check_ringings(self, bell, longest):
        told = bell.heard()
        for beginning, end, how in told:
            self.assertTrue(0 <= end - beginning <= longest)
            self.assertTrue(end - beginning == longest if how == "unheard" else end - beginning < longest)
        for one, other in zip(told, told[1:]):
            self.assertLessEqual(one[1], other[0])
        self.assertEqual(bell.loud(), sum(end - beginning for beginning, end, how in told))


# Whether a clock rings at a moment, straight as 2.3 tells it.
def does_ring(clock, moment):
    if clock[0] == "timer":
        return clock[3] is not None and moment == clock[3] + clock[2]
    if clock[0] == "every":
        steps, rest = divmod(moment - clock[1], clock[2])
        return rest == 0 and steps >= 0 and (clock[3] is None or steps < clock[3])
    return moment % 1440 == clock[1] and moment // 1440 % 7 in clock[2] and moment not in clock[3]


class Houses(unittest.TestCase):
    def drawn(self, draw):
        kind = draw.choice(("timer", "every", "every", "alarm"))
        if kind == "timer":
            return ("timer", 9, draw.randint(0, 2000), draw.choice((None, 0, 500, 3000)))
        if kind == "every":
            return ("every", draw.randint(0, 1500), draw.randint(1, 900), draw.choice((None, 0, 1, 5)))
        clock = ("alarm", draw.randint(0, 1439), tuple(sorted(draw.sample(range(7), draw.randint(0, 7)))), ())
        return skipped(skipped(clock, draw.randint(0, 6000)), draw.randint(0, 6000))

    def test_each_ring_is_told_once_awake_or_counted_once_asleep(self):
        draw = random.Random(5)
        for _ in range(60):
            self.run_one(draw)

    def run_one(self, draw):
        reached = draw.choice((0, 1, 700))
        house, clocks = House(reached), {}
        for _ in range(25):
            word, name = draw.choice(("put", "put", "drop", "tick", "tick", "sleep")), draw.choice("abcd")
            now = reached + draw.choice((0, 1, 10, 400, 1440))
            if word == "put":
                clocks[name] = self.drawn(draw)
                house.put(name, clocks[name])
            elif word == "drop" and name not in clocks:
                self.assertRaises(NoClock, house.drop, name)
            elif word == "drop":
                house.drop(name)
                clocks.pop(name)
            else:
                rows = sorted((moment, own) for own in clocks for moment in range(reached + 1, now + 1)
                              if does_ring(clocks[own], moment))
                self.check_due(house, clocks, reached, rows)
                self.check_told(house, word, now, rows)
                reached = now
            self.assertEqual((house.names(), house.moment()), (sorted(clocks), reached))

    def check_told(self, house, word, now, rows):
        if word == "tick":
            self.assertRaises(Awake, house.wake, now)
            self.assertEqual(house.tick(now), rows)
            self.assertEqual(house.tick(now), [])
            self.assertRaises(Early, house.tick, now - 1)
            return
        house.sleep()
        self.assertRaises(Asleep, house.tick, now)
        names = sorted(set(name for moment, name in rows))
        moments = {name: [moment for moment, own in rows if own == name] for name in names}
        self.assertEqual(house.wake(now), [(name, moments[name][-1], len(moments[name])) for name in names])

    def check_due(self, house, clocks, reached, rows):
        due = house.next_due()
        if rows:
            self.assertEqual(due, (rows[0][0], [name for moment, name in rows if moment == rows[0][0]]))
        elif due is not None:
            self.assertGreater(due[0], reached)
            self.assertEqual(due[1], [name for name in sorted(clocks) if does_ring(clocks[name], due[0])])

    def test_ticks_far_apart_tell_what_ticks_close_together_tell(self):
        draw = random.Random(6)
        for _ in range(40):
            clocks = [(name, self.drawn(draw)) for name in "abc"]
            one, other, told = House(0), House(0), []
            for name, clock in clocks:
                one.put(name, clock)
                other.put(name, clock)
            for now in sorted(draw.randint(0, 9000) for _ in range(9)) + [9000]:
                told.extend(one.tick(now))
            self.assertEqual(told, other.tick(9000))
            self.assertEqual(told, sorted(set(told)))


class Rounds(unittest.TestCase):
    def test_phases_come_one_behind_the_other_round_by_round(self):
        draw = random.Random(7)
        for _ in range(300):
            phases = tuple((draw.choice("abc"), draw.choice((0, 0, 1, 2, 5))) for _ in range(draw.randint(0, 5)))
            self.run_one(phases, draw.randint(0, 4))

    def run_one(self, phases, many):
        places = [(turn, number, gone) for turn in range(many) for number, phase in enumerate(phases)
                  for gone in range(phase[1])]
        self.assertEqual(whole_size(phases, many), len(places))
        self.assertEqual(round_size(phases) * many, len(places))
        self.assertEqual(starts(phases, many),
                         [(moment, place[0], place[1]) for moment, place in enumerate(places) if place[2] == 0])
        for gone in range(len(places) + 4):
            place = places[gone] if gone < len(places) else None
            self.assertEqual(place_at(phases, many, gone), place)
            left = None if place is None else phases[place[1]][1] - place[2]
            self.assertEqual(left_of_phase(phases, many, gone), left)
            times = [time_in(phases, many, name, gone) for name in "abc"]
            self.assertEqual(sum(times), min(gone, len(places)))
            self.assertEqual(times, [sum(phases[one[1]][0] == name for one in places[:gone]) for name in "abc"])
        moment = 0
        for turn in range(many):
            for number, phase in enumerate(phases):
                self.assertEqual(when(phases, turn, number), moment)
                moment += phase[1]


class Paces(unittest.TestCase):
    def drawn(self, draw):
        return (draw.randint(-30, 30), draw.randint(-30, 30), draw.randint(0, 12), draw.randint(1, 12))

    # What a clock shows at any time, whole or not, straight as 6.1 tells it.
    def shows(self, clock, time):
        return clock[0] + (time - clock[1]) * fractions.Fraction(clock[2], clock[3])

    def check_fraction(self, told, value):
        self.assertEqual(told, (value.numerator, value.denominator))
        self.assertGreater(told[1], 0)
        self.assertEqual(math.gcd(*told), 1)

    def test_reads_floor_read_and_gap(self):
        draw = random.Random(8)
        for _ in range(2000):
            one, other, now = self.drawn(draw), self.drawn(draw), draw.randint(-60, 60)
            self.check_fraction(reads(one, now), self.shows(one, now))
            self.check_fraction(gap(one, other, now), self.shows(one, now) - self.shows(other, now))
            self.assertEqual(floor_read(one, now), math.floor(self.shows(one, now)))

    def test_two_clocks_show_the_same_just_when_told(self):
        draw = random.Random(9)
        for _ in range(2000):
            one, other = self.drawn(draw), self.drawn(draw)
            told = meet(one, other)
            self.assertEqual(told, meet(other, one))
            if told is None:
                self.assertEqual(gap(one, other, 0), gap(one, other, 1))
                continue
            time = fractions.Fraction(told[0], told[1])
            self.check_fraction(told, time)
            self.assertEqual(self.shows(one, time), self.shows(other, time))
            self.assertNotEqual(gap(one, other, 0), gap(one, other, 1))

    def test_first_showing(self):
        draw = random.Random(10)
        for _ in range(2000):
            clock, number = self.drawn(draw), draw.randint(-60, 60)
            if clock[2] > 0:
                moment = first_showing(clock, number)
                self.assertGreaterEqual(self.shows(clock, moment), number)
                self.assertLess(self.shows(clock, moment - 1), number)

    def test_set_anew_a_clock_goes_on_from_there(self):
        draw = random.Random(11)
        for _ in range(2000):
            clock, now, later = self.drawn(draw), draw.randint(-60, 60), draw.randint(-60, 60)
            anew_set = set_to(clock, 17, now)
            self.assertEqual(reads(anew_set, now), (17, 1))
            self.assertEqual(self.shows(anew_set, later) - 17, self.shows(clock, later) - self.shows(clock, now))
            quick = faster(clock, 7, 3, now)
            self.assertEqual(reads(quick, now), (floor_read(clock, now), 1))
            self.assertEqual(self.shows(quick, now + 3) - self.shows(quick, now), 7)


if __name__ == "__main__":
    unittest.main()
