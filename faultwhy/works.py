"""A work as a text: how it is read, and which rows are refused."""

from faultwhy.errors import Mismatch, NoName, Taken, TooBig, Twice, Unread
from faultwhy.kinds import is_kind
from faultwhy.sorts import (
    has_number,
    is_bare_way,
    is_numbered_way,
    is_sort,
    number_fits,
    pin_count,
    pins_fit,
    way_fits,
)
from faultwhy.words import is_name, is_number, rows_of

MOST_WIRES = 40
MOST_PARTS = 12
MOST_WAYS = 3


# A work while its rows are gone through, with what later rows are held against.
class Draft:
    def __init__(self):
        self.wires = []
        self.parts = []
        self.kinds = {}
        self.outs = {}
        self.ways = {}
        self.shapes = {}


def read_work(text):
    draft = Draft()
    for row, words in rows_of(text):
        read_row(draft, row, words)
    return (draft.wires, draft.parts)


def read_row(draft, row, words):
    if is_wire_row(words):
        read_wire(draft, row, words)
    elif is_part_row(words):
        read_part(draft, row, words)
    elif is_way_row(words):
        read_way(draft, row, words)
    else:
        raise Unread(row)


def is_wire_row(words):
    if len(words) < 3 or words[0] != "wire":
        return False
    return is_name(words[1]) and is_kind(words[2]) and words[3:] in ([], ["shut"])


def is_part_row(words):
    if len(words) < 3 or words[0] != "part" or not is_sort(words[2]):
        return False
    behind = 3 + pin_count(words[2])
    if not all([is_name(word) for word in [words[1]] + words[3:behind]]):
        return False
    return is_number_alone(words[behind:]) if has_number(words[2]) else len(words) == behind


def is_way_row(words):
    if len(words) < 3 or words[0] != "way" or not is_name(words[1]):
        return False
    if is_bare_way(words[2]):
        return len(words) == 3
    return is_numbered_way(words[2]) and is_number_alone(words[3:])


def is_number_alone(words):
    return len(words) == 1 and is_number(words[0])


# Within each of these the refusals stand in the order in which they are due.


def read_wire(draft, row, words):
    name = words[1]
    if name in draft.kinds:
        raise Twice(row)
    if len(draft.wires) >= MOST_WIRES:
        raise TooBig(row)
    draft.wires.append((name, words[2], len(words) > 3))
    draft.kinds[name] = words[2]


def read_part(draft, row, words):
    name = words[1]
    sort = words[2]
    pins = words[3:3 + pin_count(sort)]
    number = int(words[-1]) if has_number(sort) else None
    if name in draft.ways:
        raise Twice(row)
    if not all([wire in draft.kinds for wire in pins]):
        raise NoName(row)
    kinds = [draft.kinds[wire] for wire in pins]
    if not pins_fit(sort, kinds) or not number_fits(sort, kinds, number):
        raise Mismatch(row)
    if pins[-1] in draft.outs:
        raise Taken(row)
    if len(draft.parts) >= MOST_PARTS:
        raise TooBig(row)
    draft.outs[pins[-1]] = True
    draft.shapes[name] = (sort, kinds)
    draft.ways[name] = []
    draft.parts.append((name, sort, pins, number, draft.ways[name]))


def read_way(draft, row, words):
    name = words[1]
    way = (words[2], None if is_bare_way(words[2]) else int(words[3]))
    if way in draft.ways.get(name, []):
        raise Twice(row)
    if name not in draft.ways:
        raise NoName(row)
    if not way_fits(draft.shapes[name][0], draft.shapes[name][1], way):
        raise Mismatch(row)
    if len(draft.ways[name]) >= MOST_WAYS:
        raise TooBig(row)
    draft.ways[name].append(way)


def copy_work(work):
    # Every list anew, so that neither work changes with the other.
    wires = [tuple(wire) for wire in work[0]]
    parts = [(name, sort, list(pins), number, list(ways)) for name, sort, pins, number, ways in work[1]]
    return (wires, parts)
