"""Clocks that ring: timers, such as ring every so far, and alarms by days."""

from latebells.sizes import do_rise, is_size, is_size_or_none, many_up_to, refuse_early, stands_in

DAY = 1440
WEEK = 7


def is_clock(thing):
    if not isinstance(thing, tuple) or len(thing) != 4:
        return False
    if thing[0] == "timer":
        return is_size(thing[1]) and is_size(thing[2]) and is_size_or_none(thing[3])
    if thing[0] == "every":
        return is_size(thing[1]) and is_size(thing[2]) and thing[2] >= 1 and is_size_or_none(thing[3])
    if thing[0] == "alarm":
        return is_size(thing[1]) and thing[1] < DAY and are_days(thing[2]) and do_rise(thing[3])
    return False


def are_days(thing):
    return do_rise(thing) and all([day < WEEK for day in thing])


def timer(size):
    return ("timer", size, size, None)


def left_at(clock, now):
    refuse_early(clock[3], now)
    if clock[3] is None:
        return clock[2]
    return max(0, clock[2] - (now - clock[3]))


def begun(clock, now):
    refuse_early(clock[3], now)
    if clock[3] is not None:
        return clock
    return ("timer", clock[1], clock[2], now)


def stopped(clock, now):
    return ("timer", clock[1], left_at(clock, now), None)


def longer(clock, by, now):
    return ("timer", clock[1], max(0, left_at(clock, now) + by), now_if_running(clock, now))


def anew(clock, now):
    refuse_early(clock[3], now)
    return ("timer", clock[1], clock[1], now_if_running(clock, now))


def now_if_running(clock, now):
    return None if clock[3] is None else now


def next_ring(clock, now):
    if clock[0] == "timer":
        return next_of_timer(clock, now)
    if clock[0] == "every":
        return next_of_every(clock, now)
    return next_of_alarm(clock, now)


def next_of_timer(clock, now):
    if clock[3] is None or clock[3] + clock[2] <= now:
        return None
    return clock[3] + clock[2]


def next_of_every(clock, now):
    rung = rung_of_every(clock, now)
    if clock[3] is not None and rung == clock[3]:
        return None
    return clock[1] + rung * clock[2]


def next_of_alarm(clock, now):
    moment = next_set(clock, now)
    while moment is not None and stands_in(clock[3], moment):
        moment = next_set(clock, moment)
    return moment


# The next moment for which the alarm is set, whether or not it is still then.
def next_set(clock, now):
    first = days_gone(clock, now)
    days = [day for day in range(first, first + WEEK) if day % WEEK in clock[2]]
    return days[0] * DAY + clock[1] if days else None


# Of how many days the alarm's minute is not behind the moment: none lies ahead of day 0.
def days_gone(clock, moment):
    return max(0, (moment - clock[1]) // DAY + 1)


# Reckoned from behind: up to now it may have rung more often than can be walked.
def last_ring(clock, now):
    if clock[0] == "alarm":
        return last_of_alarm(clock, now)
    rung = rung_by(clock, now)
    if rung == 0:
        return None
    if clock[0] == "timer":
        return clock[3] + clock[2]
    return clock[1] + (rung - 1) * clock[2]


def last_of_alarm(clock, now):
    moment = last_set(clock, now)
    while moment is not None and stands_in(clock[3], moment):
        moment = last_set(clock, moment - 1)
    return moment


def last_set(clock, now):
    gone = days_gone(clock, now)
    days = [day for day in range(max(0, gone - WEEK), gone) if day % WEEK in clock[2]]
    return days[-1] * DAY + clock[1] if days else None


def rings(clock, start, end):
    first = next_ring(clock, start)
    if first is None or first > end:
        return []
    if clock[0] == "timer":
        return [first]
    if clock[0] == "every":
        return list(range(first, last_ring(clock, end) + 1, clock[2]))
    return rings_of_alarm(clock, first, end)


def rings_of_alarm(clock, first, end):
    told = []
    moment = first
    while moment <= end:
        told.append(moment)
        moment = next_of_alarm(clock, moment)
    return told


# Counted, not walked: a stretch may have more rings than a list can hold.
def how_many(clock, start, end):
    return max(0, rung_by(clock, end) - rung_by(clock, start))


def rung_by(clock, moment):
    if clock[0] == "timer":
        return 1 if clock[3] is not None and clock[3] + clock[2] <= moment else 0
    if clock[0] == "every":
        return rung_of_every(clock, moment)
    return rung_of_alarm(clock, moment)


def rung_of_every(clock, moment):
    rung = max(0, (moment - clock[1]) // clock[2] + 1)
    return rung if clock[3] is None else min(rung, clock[3])


def rung_of_alarm(clock, moment):
    days = days_gone(clock, moment)
    set_for = days // WEEK * len(clock[2]) + many_up_to(clock[2], days % WEEK - 1)
    still = clock[3][:many_up_to(clock[3], moment)]
    return set_for - len([one for one in still if is_set_for(clock, one)])


def is_set_for(clock, moment):
    return moment % DAY == clock[1] and moment // DAY % WEEK in clock[2]


def skipped(clock, now):
    moment = next_ring(clock, now)
    if moment is None:
        return clock
    place = many_up_to(clock[3], moment)
    return ("alarm", clock[1], clock[2], clock[3][:place] + (moment,) + clock[3][place:])
