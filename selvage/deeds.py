"""Deeds that can be taken back, the last one first, and then be done again."""

from selvage.errors import NoDeed


class Deeds:
    def __init__(self):
        self.done = []
        self.undone = []

    def add(self, deed):
        self.done.append(deed)
        self.undone = []

    def back(self):
        if len(self.done) == 0:
            raise NoDeed("there is nothing to take back")
        deed = self.done.pop()
        self.undone.append(deed)
        return deed

    def again(self):
        if len(self.undone) == 0:
            raise NoDeed("there is nothing to do again")
        deed = self.undone.pop()
        self.done.append(deed)
        return deed
