"""Turns: two sides, of whose clocks one runs till its side presses, or falls."""

from latebells.sizes import refuse_early


class Turns:
    def __init__(self, one, other, more):
        self.left = [one, other]
        self.more = more
        self.latest = None
        self.side = None
        self.since = None
        self.ended = []

    def begin(self, side, now):
        self.hear_of(now)
        if self.side is not None:
            return False
        self.side = side
        self.since = now
        return True

    def press(self, now):
        self.hear_of(now)
        if self.side is None or self.has_fallen(now):
            return False
        took = now - self.since
        self.left[self.side] += self.more - took
        self.ended.append((self.side, took))
        self.side = 1 - self.side
        self.since = now
        return True

    def left_of(self, side, now):
        self.hear_of(now)
        if side != self.side:
            return self.left[side]
        return max(0, self.left[side] - (now - self.since))

    def fell(self, now):
        self.hear_of(now)
        return (self.side, self.fall()) if self.has_fallen(now) else None

    def running(self, now):
        self.hear_of(now)
        return None if self.has_fallen(now) else self.side

    def turns(self):
        return list(self.ended)

    def hear_of(self, now):
        refuse_early(self.latest, now)
        self.latest = now

    # A fall is reckoned, not kept: behind it no press changes the run that led to it.
    def has_fallen(self, now):
        return self.side is not None and self.fall() <= now

    def fall(self):
        return self.since + self.left[self.side]
