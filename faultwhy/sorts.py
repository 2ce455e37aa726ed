"""The sorts of parts with their pins, and which ways of failing a part may have."""

from faultwhy.kinds import is_value

# The kinds of a sort's pins, the out last. Where "x" stands, either kind may
# be, but the same one at each "x" of a part.
PINS = {
    "add": ("number", "number", "number"),
    "times": ("number", "number", "number"),
    "copy": ("x", "x"),
    "const": ("x",),
    "hold": ("x", "x"),
    "not": ("truth", "truth"),
    "and": ("truth", "truth", "truth"),
    "or": ("truth", "truth", "truth"),
    "xor": ("truth", "truth", "truth"),
    "more": ("number", "number", "truth"),
    "pick": ("truth", "x", "x", "x"),
}
NUMBERED_SORTS = ("const", "hold")
NUMBERED_WAYS = ("stuck", "off", "pass")
BARE_WAYS = ("flip",)


def is_sort(word):
    return word in PINS


def pin_count(sort):
    return len(PINS[sort])


def has_number(sort):
    return sort in NUMBERED_SORTS


def pins_fit(sort, kinds):
    either = [kind for due, kind in zip(PINS[sort], kinds) if due == "x"]
    if any([kind != either[0] for kind in either]):
        return False
    return all([due in ("x", kind) for due, kind in zip(PINS[sort], kinds)])


def number_fits(sort, kinds, number):
    return not has_number(sort) or is_value(kinds[-1], number)


def is_bare_way(word):
    return word in BARE_WAYS


def is_numbered_way(word):
    return word in NUMBERED_WAYS


def way_fits(sort, kinds, way):
    word = way[0]
    out = kinds[-1]
    if word == "stuck":
        return is_value(out, way[1])
    if word == "off":
        return out == "number"
    if word == "flip":
        return out == "truth"
    return pass_fits(sort, kinds, way[1])


def pass_fits(sort, kinds, number):
    # A hold has an in, but what it hands on is of the turn before.
    if sort in NUMBERED_SORTS:
        return False
    return 1 <= number < len(kinds) and kinds[number - 1] == kinds[-1]
