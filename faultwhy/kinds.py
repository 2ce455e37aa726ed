"""The kinds of wires, and which whole numbers are values of each."""

KINDS = ("number", "truth")


def is_kind(word):
    return word in KINDS


def is_value(kind, value):
    if kind == "truth":
        return value in (0, 1)
    return has_few_figures(value)


def has_few_figures(value):
    # The bound of sixty figures holds on both sides of nought.
    return -(10 ** 60) < value < 10 ** 60
