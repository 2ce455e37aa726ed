"""Which told ways of failing, one for each part of a set, fit the readings."""

from faultwhy.errors import TooMany
from faultwhy.reckoning import pieces_in, reckon_pieces

MOST_ROWS = 64


def named_ways(work, turns, readings, names):
    ways = ways_of(work, names)
    if count_of_rows(ways) > MOST_ROWS:
        raise TooMany()
    return [row for row in all_rows(ways) if fits(work, turns, readings, modes_of(work, names, ways, row))]


def ways_of(work, names):
    told = {}
    for part in work[1]:
        told[part[0]] = part[4]
    return [told[name] for name in names]


def count_of_rows(ways):
    count = 1
    for one in ways:
        count = count * len(one)
    return count


def all_rows(ways):
    rows = [[]]
    for one in ways:
        longer = []
        for row in rows:
            longer.extend([row + [number] for number in range(len(one))])
        rows = longer
    return rows


def modes_of(work, names, ways, row):
    modes = {}
    for part in work[1]:
        modes[part[0]] = None
    for name, one, number in zip(names, ways, row):
        modes[name] = one[number]
    return modes


def fits(work, turns, readings, modes):
    return reckon_pieces(pieces_in(work, turns, modes), readings).last is None
