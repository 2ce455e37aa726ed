"""How the rows of a reckoning go back to those that they come from."""


# A step is `(place, value, piece)`: what was reckoned at a place, and the piece
# that forced it, None for a reading. Steps stand in the order in which they
# were reckoned, no place twice.
class Trail:
    def __init__(self, steps):
        self.steps = steps
        self.numbers = {}
        for number, step in enumerate(steps):
            self.numbers[step[0]] = number

    def origin(self, step, number):
        # Only steps ahead of the step's own number may be gone back to.
        if step[2] is None:
            return []
        known = {}
        for place in step[2].places:
            if self.numbers.get(place, number) < number:
                known[place] = self.steps[self.numbers[place]][1]
        return sorted([self.numbers[place] for place in least_origin(step, known)])


def least_origin(step, known):
    # More values never force less, so leaving out one place after the other
    # ends where none can be left out any more.
    kept = known
    for place in list(known):
        fewer = without(kept, place)
        if (step[0], step[1]) in step[2].forced_from(fewer):
            kept = fewer
    return list(kept)


def without(known, place):
    fewer = dict(known)
    fewer.pop(place)
    return fewer


def table_rows(steps):
    trail = Trail(steps)
    return [row_of(step, trail.origin(step, number)) for number, step in enumerate(steps)]


def clash_rows(steps, last):
    # Only what leads to the last step, or to the value that it is against.
    trail = Trail(steps)
    ending = trail.origin(last, len(steps))
    origins = origins_back(trail, ending + [trail.numbers[last[0]]])
    fresh = {}
    for number in sorted(origins):
        fresh[number] = len(fresh)
    rows = [row_of(steps[number], renumbered(origins[number], fresh)) for number in fresh]
    return rows + [row_of(last, renumbered(ending, fresh))]


def origins_back(trail, numbers):
    origins = {}
    waiting = list(numbers)
    while waiting:
        number = waiting.pop()
        if number not in origins:
            origins[number] = trail.origin(trail.steps[number], number)
            waiting.extend(origins[number])
    return origins


def renumbered(origin, fresh):
    return [fresh[number] for number in origin]


def row_of(step, origin):
    place = step[0]
    if step[2] is None:
        return (place[0], place[1], step[1], "", place[1], origin)
    return (place[0], place[1], step[1], step[2].part, step[2].at, origin)
