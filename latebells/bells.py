"""Bells: they ring till someone hears them, are put off, or end unheard."""

from latebells.sizes import refuse_early


class Bell:
    def __init__(self, longest):
        self.longest = longest
        self.latest = None
        self.since = None
        self.due = None
        self.ended = []

    def ring(self, now):
        self.go_on_to(now)
        if self.since is not None:
            return False
        self.since = now
        self.due = None
        return True

    def silence(self, now):
        self.go_on_to(now)
        if self.since is not None:
            self.end_ringing(now, "silenced")
            return True
        waited = self.due is not None
        self.due = None
        return waited

    def put_off(self, now, by):
        self.go_on_to(now)
        if self.since is None:
            return False
        self.end_ringing(now, "put off")
        self.due = now + by
        return True

    def state(self, now):
        self.go_on_to(now)
        if self.since is not None:
            return "rings"
        return "still" if self.due is None else "waits"

    def heard(self):
        return list(self.ended)

    def loud(self):
        return sum([end - beginning for beginning, end, how in self.ended])

    # A bell is only told of moments now and then: what happened since the last one is made up for here.
    def go_on_to(self, now):
        refuse_early(self.latest, now)
        self.latest = now
        if self.due is not None and self.due <= now:
            self.since = self.due
            self.due = None
        if self.since is not None and now - self.since >= self.longest:
            self.end_ringing(self.since + self.longest, "unheard")

    def end_ringing(self, end, how):
        self.ended.append((self.since, end, how))
        self.since = None
