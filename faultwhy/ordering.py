"""The order in which the parts of a work are worked within a turn, and rings that have none."""

from faultwhy.errors import Ring


def order_of(work):
    feeders = feeders_of(work[1])
    order = []
    placed = {}
    while len(order) < len(feeders):
        name = first_that_may(feeders, placed)
        if name is None:
            raise Ring(ring_in(feeders, placed))
        order.append(name)
        placed[name] = True
    return order


def feeders_of(parts):
    # For each part, by the work's order, the parts that must stand ahead of it.
    makers = {}
    for name, sort, pins, number, ways in parts:
        makers[pins[-1]] = name
    feeders = {}
    for name, sort, pins, number, ways in parts:
        ins = [] if sort == "hold" else pins[:-1]
        feeders[name] = [makers[wire] for wire in ins if wire in makers]
    return feeders


def first_that_may(feeders, placed):
    for name in feeders:
        if name not in placed and all([feeder in placed for feeder in feeders[name]]):
            return name
    return None


def ring_in(feeders, placed):
    # A part left over has a feeder left over, so a walk back along these
    # comes to some part a second time: what lies between is a ring.
    left = [name for name in feeders if name not in placed]
    for name in left:
        if name in feeders[name]:
            return [name]
    trail = [left[0]]
    while True:
        feeder = first_left(feeders[trail[-1]], placed)
        if feeder in trail:
            return list(reversed(trail[trail.index(feeder):]))
        trail.append(feeder)


def first_left(names, placed):
    return [name for name in names if name not in placed][0]
