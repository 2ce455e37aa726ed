"""The log: readings that are put in and taken back, and what follows from those that stand."""

from faultwhy.asking import next_reading
from faultwhy.errors import AlreadyRead, BadTurns, BadValue, NoPlace, NotRead, Shut
from faultwhy.explaining import all_reasons
from faultwhy.kinds import is_value
from faultwhy.works import copy_work

MOST_TURNS = 6


class Log:
    def __init__(self, work, turns):
        if not 1 <= turns <= MOST_TURNS:
            raise BadTurns()
        self.work = copy_work(work)
        self.turns = turns
        self.read = {}
        # What follows from the readings, None while it is not reckoned yet.
        self.reasons = None

    def put(self, wire, turn, value):
        told = self.wire_at(wire, turn)
        if told[2]:
            raise Shut()
        if not is_value(told[1], value):
            raise BadValue()
        if (wire, turn) in self.read:
            raise AlreadyRead()
        self.read[(wire, turn)] = value
        self.reasons = None

    def take_back(self, wire, turn):
        self.wire_at(wire, turn)
        if (wire, turn) not in self.read:
            raise NotRead()
        self.read.pop((wire, turn))
        self.reasons = None

    def wire_at(self, wire, turn):
        for told in self.work[0]:
            if told[0] == wire and 0 <= turn < self.turns:
                return told
        raise NoPlace()

    def standing(self):
        readings = []
        for told in self.work[0]:
            for turn in range(self.turns):
                if (told[0], turn) in self.read:
                    readings.append((told[0], turn, self.read[(told[0], turn)]))
        return readings

    def clashes(self):
        return copies(self.all_reasons_now()[0])

    def explanations(self):
        return copies(self.all_reasons_now()[1])

    def all_reasons_now(self):
        if self.reasons is None:
            self.reasons = all_reasons(self.work, self.turns, self.standing())
        return self.reasons

    def next_place(self):
        return next_reading(self.work, self.turns, self.standing(), self.all_reasons_now()[1])


def copies(lists):
    # What is told is the asker's own, what the log keeps is not.
    return [list(one) for one in lists]
