"""Diaries: names take stretches of moments, step by step, back and forth."""

from latebells.errors import NoClock, NoStep, Taken
from latebells.freeing import first_free
from latebells.spells import spells_of


class Diary:
    def __init__(self):
        self.placed = []
        # Steps are tuples (word, stretch), the last one at the end.
        self.done = []
        self.undone = []

    def add(self, name, start, till):
        for stretch in self.placed:
            if max(start, stretch[1]) < min(till, stretch[2]):
                raise Taken("a stretch that is there has a moment of it")
        self.step_anew("add", (name, start, till))

    def cancel(self, start):
        found = [stretch for stretch in self.placed if stretch[1] == start]
        if not found:
            raise NoClock("no stretch has this start")
        self.step_anew("cancel", found[0])
        return found[0]

    def stretches(self):
        return sorted(self.placed, key=lambda stretch: stretch[1])

    def spells_by(self, name):
        return spells_of([stretch[1:] for stretch in self.placed if stretch[0] == name])

    def next_free(self, size, start):
        return first_free([spells_of([stretch[1:] for stretch in self.placed])], size, start)

    def back(self):
        if not self.done:
            raise NoStep("there is nothing to take back")
        step = self.done.pop()
        self.undone.append(step)
        self.set_there(step[1], step[0] == "cancel")
        return step[0]

    def forth(self):
        if not self.undone:
            raise NoStep("there is nothing to do again")
        step = self.undone.pop()
        self.done.append(step)
        self.set_there(step[1], step[0] == "add")
        return step[0]

    def counts(self):
        return (len(self.done), len(self.undone))

    def twin(self):
        other = diary_of(self.placed)
        other.done = list(self.done)
        other.undone = list(self.undone)
        return other

    # Behind a new step nothing can be done again that was taken back ahead of it.
    def step_anew(self, word, stretch):
        self.undone = []
        self.done.append((word, stretch))
        self.set_there(stretch, word == "add")

    def set_there(self, stretch, is_there):
        if is_there:
            self.placed.append(stretch)
        else:
            self.placed.remove(stretch)


# A diary without steps: none of these stretches can be taken back.
def diary_of(stretches):
    diary = Diary()
    diary.placed = list(stretches)
    return diary
