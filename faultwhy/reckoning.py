"""Reckoning: all that readings and the parts that keep to something force."""

from faultwhy.pieces import mode_pieces
from faultwhy.trails import clash_rows, table_rows


# The values reckoned so far, with the steps that led to them. It ends at the
# first clash, for a clash is never undone by reckoning on.
class Reckoning:
    def __init__(self, readings):
        self.values_known = {}
        self.steps = []
        self.last = None
        for wire, turn, value in readings:
            self.take((wire, turn), value, None)

    def take(self, place, value, piece):
        self.values_known[place] = value
        self.steps.append((place, value, piece))

    def take_forced(self, piece):
        # The places that got a value; at a clash the step is kept apart.
        pairs = piece.forced_from(self.values_known)
        fresh = []
        for place, value in pairs:
            if place not in self.values_known:
                self.take(place, value, piece)
                fresh.append(place)
            elif self.values_known[place] != value:
                self.last = (place, value, piece)
                return fresh
        return fresh


def reckon(work, turns, readings, modes):
    done = reckon_pieces(pieces_in(work, turns, modes), readings)
    if done.last is None:
        return ("table", table_rows(done.steps))
    return ("clash", clash_rows(done.steps, done.last))


def pieces_in(work, turns, modes):
    pieces = []
    for part in work[1]:
        if part[0] in modes:
            pieces.extend(mode_pieces(part, turns, modes[part[0]]))
    return pieces


def reckon_pieces(pieces, readings):
    done = Reckoning(readings)
    touched = pieces_touching(pieces)
    waiting = list(range(len(pieces)))
    is_waiting = [True for piece in pieces]
    while waiting and done.last is None:
        number = waiting.pop()
        is_waiting[number] = False
        for place in done.take_forced(pieces[number]):
            for other in touched[place]:
                if not is_waiting[other]:
                    is_waiting[other] = True
                    waiting.append(other)
    return done


def pieces_touching(pieces):
    touched = {}
    for number, piece in enumerate(pieces):
        for place in piece.places:
            touched.setdefault(place, []).append(number)
    return touched
