"""Deeds that are kept, taken back and done again."""

from hangrings.errors import NoDeed


# What a deed makes is kept whole, and is never changed: so what stands behind
# any row of deeds is what one made anew by these deeds would have.
class Deeds:
    def __init__(self, first):
        self.done = [first]
        self.gone = []

    def latest(self):
        return self.done[-1]

    def do(self, made):
        self.done.append(made)
        self.gone = []

    def back(self):
        if len(self.done) == 1:
            raise NoDeed("there is no deed to take back")
        self.gone.append(self.done.pop())

    def again(self):
        if len(self.gone) == 0:
            raise NoDeed("there is no deed to do again")
        self.done.append(self.gone.pop())

    def hand_deeds_to(self, other):
        other.done = list(self.done)
        other.gone = list(self.gone)
