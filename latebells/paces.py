"""Paces: clocks (shows, then, up, down) that go slower or faster, exactly."""


def reads(clock, now):
    return lowest(reads_times_down(clock, now), clock[3])


def floor_read(clock, now):
    return reads_times_down(clock, now) // clock[3]


# Times the clock's down what it shows is a whole number at each whole moment.
def reads_times_down(clock, now):
    return clock[0] * clock[3] + (now - clock[1]) * clock[2]


def gap(one, other, now):
    more = reads_times_down(one, now) * other[3] - reads_times_down(other, now) * one[3]
    return lowest(more, one[3] * other[3])


def meet(one, other):
    gained = one[2] * other[3] - other[2] * one[3]
    if gained == 0:
        return None
    behind_at_0 = reads_times_down(other, 0) * one[3] - reads_times_down(one, 0) * other[3]
    return lowest(behind_at_0, gained)


def first_showing(clock, number):
    # A clock that stands still shows the number always or never: there is no first moment.
    if clock[2] <= 0:
        return None
    # Twice turned round, so that // rounds up: a moment sooner it shows less.
    return clock[1] - (clock[0] - number) * clock[3] // clock[2]


def set_to(clock, shows, now):
    return (shows, now, clock[2], clock[3])


def faster(clock, up, down, now):
    return (floor_read(clock, now), now, up, down)


def lowest(up, down):
    common = common_part(up, down)
    return (up // common, down // common)


# Rests have the sign of what was divided by, so this has the sign of other: divided by it, other is above 0.
def common_part(one, other):
    whole = one
    part = other
    while part != 0:
        rest = whole % part
        whole = part
        part = rest
    return whole
