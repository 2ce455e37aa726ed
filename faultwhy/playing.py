"""Works played forward, turn by turn, from the values of their free wires."""

from faultwhy.errors import TooGreat
from faultwhy.forcing import pairs_of
from faultwhy.kinds import has_few_figures
from faultwhy.ordering import order_of
from faultwhy.pieces import piece_at


def play_work(work, inputs, modes):
    order = order_of(work)
    parts = {}
    for part in work[1]:
        parts[part[0]] = part
    free = free_wires(work)
    values = {}
    for turn, given in enumerate(inputs):
        for wire, value in zip(free, given):
            values[(wire, turn)] = value
        for name in order:
            out = parts[name][2][-1]
            values[(out, turn)] = small_value(parts[name], turn, modes.get(name), values)
    return [values_at(work, turn, values) for turn in range(len(inputs))]


def free_wires(work):
    outs = {}
    for part in work[1]:
        outs[part[2][-1]] = True
    return [wire[0] for wire in work[0] if wire[0] not in outs]


def small_value(part, turn, mode, values):
    value = out_value(part, turn, mode, values)
    if not has_few_figures(value):
        raise TooGreat(part[0], turn)
    return value


def out_value(part, turn, mode, values):
    if mode is not None and mode[0] == "does":
        return mode[1][turn]
    piece = piece_at(part[1], part[2], part[3], turn)
    # With its ins known and its out not, a piece forces its out alone, to one value.
    pins = [values[place] for place in piece[2][:-1]] + [None]
    return pairs_of(piece[0], piece[1], mode, pins)[0][1]


def values_at(work, turn, values):
    return [values[(wire[0], turn)] for wire in work[0]]
