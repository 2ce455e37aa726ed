"""What the pins of a part force, where it is sound and where it fails in a told way."""

from faultwhy.kinds import has_few_figures


def forced(sort, number, way, pins):
    pairs = pairs_of(sort, number, way, pins)
    return sorted(set([pair for pair in pairs if has_few_figures(pair[1])]))


def pairs_of(sort, number, way, pins):
    # All pairs, whatever their figures: who plays a work refuses what is too
    # great, and a way may bring a sum back that is.
    if way is None:
        return sound_pairs(sort, number, pins)
    out = len(pins) - 1
    if way[0] == "stuck":
        return [(out, way[1])]
    if way[0] == "pass":
        return alike_pairs(pins, way[1] - 1, out)
    return bent_pairs(sort, number, way, pins)


def bent_pairs(sort, number, way, pins):
    # off and flip: the sound part sees and gives its out through a bend.
    out = len(pins) - 1
    seen = list(pins)
    if pins[out] is not None:
        seen[out] = bent_back(way, pins[out])
    return [
        (pin, bent(way, value) if pin == out else value)
        for pin, value in sound_pairs(sort, number, seen)
    ]


def bent(way, value):
    return 1 - value if way[0] == "flip" else value + way[1]


def bent_back(way, value):
    return 1 - value if way[0] == "flip" else value - way[1]


def sound_pairs(sort, number, pins):
    if sort == "const":
        return [(0, number)]
    return RULES[sort](pins)


def alike_pairs(pins, one, other):
    pairs = []
    if pins[one] is not None:
        pairs.append((other, pins[one]))
    if pins[other] is not None:
        pairs.append((one, pins[other]))
    return pairs


def add_pairs(pins):
    a = pins[0]
    b = pins[1]
    c = pins[2]
    pairs = []
    if a is not None and b is not None:
        pairs.append((2, a + b))
    if a is not None and c is not None:
        pairs.append((1, c - a))
    if b is not None and c is not None:
        pairs.append((0, c - b))
    return pairs


def times_pairs(pins):
    a = pins[0]
    b = pins[1]
    c = pins[2]
    pairs = []
    if a is not None and b is not None:
        pairs.append((2, a * b))
    if a == 0 or b == 0:
        pairs.append((2, 0))
    if divides(a, c):
        pairs.append((1, c // a))
    if divides(b, c):
        pairs.append((0, c // b))
    return pairs


def divides(a, c):
    if a is None or c is None or a == 0:
        return False
    return c % a == 0


def copy_pairs(pins):
    return alike_pairs(pins, 0, 1)


def not_pairs(pins):
    return [(pin, 1 - value) for pin, value in alike_pairs(pins, 0, 1)]


def and_pairs(pins):
    return swayed_pairs(pins, 0)


def or_pairs(pins):
    return swayed_pairs(pins, 1)


def swayed_pairs(pins, strong):
    # and and or are one rule, in which one in at `strong` settles the out.
    a = pins[0]
    b = pins[1]
    c = pins[2]
    weak = 1 - strong
    pairs = []
    if a == strong or b == strong:
        pairs.append((2, strong))
    if a == weak and b == weak:
        pairs.append((2, weak))
    if c == weak:
        pairs.extend([(0, weak), (1, weak)])
    if c == strong and a == weak:
        pairs.append((1, strong))
    if c == strong and b == weak:
        pairs.append((0, strong))
    return pairs


def xor_pairs(pins):
    a = pins[0]
    b = pins[1]
    c = pins[2]
    pairs = []
    if a is not None and b is not None:
        pairs.append((2, unlike(a, b)))
    if a is not None and c is not None:
        pairs.append((1, unlike(a, c)))
    if b is not None and c is not None:
        pairs.append((0, unlike(b, c)))
    return pairs


def unlike(one, other):
    return 1 if one != other else 0


def more_pairs(pins):
    a = pins[0]
    b = pins[1]
    if a is None or b is None:
        return []
    return [(2, 1 if a > b else 0)]


def pick_pairs(pins):
    t = pins[0]
    pairs = []
    if t == 1:
        pairs.extend(alike_pairs(pins, 1, 3))
    if t == 0:
        pairs.extend(alike_pairs(pins, 2, 3))
    if are_unlike(pins[1], pins[3]):
        pairs.extend([(0, 0), (2, pins[3])])
    if are_unlike(pins[2], pins[3]):
        pairs.extend([(0, 1), (1, pins[3])])
    if pins[1] is not None and pins[1] == pins[2]:
        pairs.append((3, pins[1]))
    return pairs


def are_unlike(one, other):
    return one is not None and other is not None and one != other


RULES = {
    "add": add_pairs,
    "times": times_pairs,
    "copy": copy_pairs,
    "not": not_pairs,
    "and": and_pairs,
    "or": or_pairs,
    "xor": xor_pairs,
    "more": more_pairs,
    "pick": pick_pairs,
}
