"""Which place to read next, so that few explanations are left at worst."""

from faultwhy.reckoning import pieces_in, reckon_pieces


def next_reading(work, turns, readings, explanations):
    tables = [table_of(work, turns, readings, one) for one in explanations]
    best = None
    fewest = len(explanations)
    for place in open_places(work, turns, readings):
        count = left_at_worst(tables, place)
        # Of equals the first place stays, so only fewer ones take its stead.
        if count < fewest:
            best = (place[0], place[1], count)
            fewest = count
    return best


def table_of(work, turns, readings, explanation):
    modes = {}
    for part in work[1]:
        if part[0] not in explanation:
            modes[part[0]] = None
    return reckon_pieces(pieces_in(work, turns, modes), readings).values_known


def open_places(work, turns, readings):
    taken = {}
    for wire, turn, value in readings:
        taken[(wire, turn)] = True
    places = []
    for name, kind, shut in work[0]:
        if not shut:
            places.extend([(name, turn) for turn in range(turns) if (name, turn) not in taken])
    return places


def left_at_worst(tables, place):
    without_value = 0
    counts = {}
    for table in tables:
        if place in table:
            counts[table[place]] = counts.get(table[place], 0) + 1
        else:
            without_value += 1
    return without_value + max([0] + list(counts.values()))
