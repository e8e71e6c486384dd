"""Houses: many clocks by names, told of together, late behind a sleep, too."""

from latebells.clocks import how_many, last_ring, next_ring, rings
from latebells.errors import Asleep, Awake, NoClock
from latebells.sizes import refuse_early


class House:
    def __init__(self, now):
        self.reached = now
        self.clocks = {}
        self.asleep = False

    def put(self, name, clock):
        self.refuse_asleep()
        self.clocks[name] = clock

    def drop(self, name):
        self.refuse_asleep()
        self.refuse_unknown(name)
        self.clocks.pop(name)

    def clock(self, name):
        self.refuse_unknown(name)
        return self.clocks[name]

    def names(self):
        return sorted(self.clocks)

    def tick(self, now):
        self.refuse_asleep()
        refuse_early(self.reached, now)
        told = []
        for name, clock in self.clocks.items():
            told.extend([(moment, name) for moment in rings(clock, self.reached, now)])
        self.reached = now
        return sorted(told)

    def moment(self):
        return self.reached

    def sleep(self):
        self.refuse_asleep()
        self.asleep = True

    # Counted, not walked: in a long sleep a clock may ring more often than a list can hold.
    def wake(self, now):
        if not self.asleep:
            raise Awake("the house is not asleep")
        refuse_early(self.reached, now)
        told = []
        for name, clock in self.clocks.items():
            many = how_many(clock, self.reached, now)
            if many > 0:
                told.append((name, last_ring(clock, now), many))
        self.reached = now
        self.asleep = False
        return sorted(told)

    def next_due(self):
        rows = [(next_ring(clock, self.reached), name) for name, clock in self.clocks.items()]
        dues = [row for row in rows if row[0] is not None]
        if not dues:
            return None
        first = min([moment for moment, name in dues])
        return (first, sorted([name for moment, name in dues if moment == first]))

    def refuse_asleep(self):
        if self.asleep:
            raise Asleep("the house is asleep")

    def refuse_unknown(self, name):
        if name not in self.clocks:
            raise NoClock("no clock has this name")
