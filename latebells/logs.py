"""Logs of what a watch was told: deeds by numbers, told late, taken back or moved, too."""

from latebells.errors import NoClock
from latebells.watches import played, shown


class Log:
    def __init__(self):
        self.told = {}
        # Counted apart from the deeds: the number of one that is no more is not given again.
        self.many_told = 0

    def tell(self, moment, word):
        number = self.many_told
        self.told[number] = (moment, word)
        self.many_told = number + 1
        return number

    def untell(self, number):
        self.refuse_unknown(number)
        self.told.pop(number)

    def move(self, number, moment):
        self.refuse_unknown(number)
        self.told[number] = (moment, self.told[number][1])

    def deeds(self):
        rows = sorted([(deed[0], number, deed[1]) for number, deed in self.told.items()])
        return [(moment, word) for moment, number, word in rows]

    def watch_at(self, moment):
        return played([deed for deed in self.deeds() if deed[0] <= moment])

    def shown_at(self, moment):
        return shown(self.watch_at(moment), moment)

    def runs(self):
        return runs_of(self.deeds())

    def ran(self, start, end):
        return sum([size_within(run, start, end) for run in self.runs()])

    def refuse_unknown(self, number):
        if number not in self.told:
            raise NoClock("no deed has this number")


def runs_of(deeds):
    told = []
    since = None
    for moment, word in deeds:
        if word == "start" and since is None:
            # Where it stopped just now, the same run goes on.
            since = told.pop()[0] if told and told[-1][1] == moment else moment
        elif word == "halt" and since is not None:
            if since < moment:
                told.append((since, moment))
            since = None
    if since is not None:
        told.append((since, None))
    return told


def size_within(run, start, end):
    till = end if run[1] is None else min(run[1], end)
    return max(0, till - max(run[0], start))
