import itertools
import unittest

from faultwhy.forcing import forced
from tests.helper import GREATEST, KIND, PINS, asked, assert_plain, ways_for

# Point 9, row by row: the pins that must be known, what must hold of them, and what is forced.
AND = [
    ("a", "a == 0", "c", "0"), ("b", "b == 0", "c", "0"), ("ab", "a == 1 and b == 1", "c", "1"), ("c", "c == 1", "a", "1"),
    ("c", "c == 1", "b", "1"), ("ca", "c == 0 and a == 1", "b", "0"), ("cb", "c == 0 and b == 1", "a", "0"),
]
TABLE = {
    "add": [("ab", "True", "c", "a + b"), ("ac", "True", "b", "c - a"), ("bc", "True", "a", "c - b")],
    "times": [
        ("ab", "True", "c", "a * b"), ("a", "a == 0", "c", "0"), ("b", "b == 0", "c", "0"),
        ("ac", "a != 0 and c % a == 0", "b", "c // a"), ("bc", "b != 0 and c % b == 0", "a", "c // b"),
    ],
    "copy": [("a", "True", "c", "a"), ("c", "True", "a", "c")],
    "not": [("a", "True", "c", "1 - a"), ("c", "True", "a", "1 - c")],
    "and": AND,
    "or": [tuple(word.translate({48: "1", 49: "0"}) for word in row) for row in AND],
    "xor": [("ab", "True", "c", "int(a != b)"), ("ac", "True", "b", "int(a != c)"), ("bc", "True", "a", "int(b != c)")],
    "more": [("ab", "True", "c", "int(a > b)")],
    "pick": [
        ("ta", "t == 1", "c", "a"), ("tc", "t == 1", "a", "c"), ("tb", "t == 0", "c", "b"), ("tc", "t == 0", "b", "c"),
        ("ac", "a != c", "t", "0"), ("ac", "a != c", "b", "c"), ("bc", "b != c", "t", "1"), ("bc", "b != c", "a", "c"),
        ("ab", "a == b", "c", "a"),
    ],
}
ROWS = {
    sort: [(need, compile(hold, sort, "eval"), pin, compile(value, sort, "eval")) for need, hold, pin, value in TABLE[sort]]
    for sort in TABLE
}
PIN_NAMES = {1: "c", 2: "ac", 3: "abc", 4: "tabc"}
NEAR = [None, -6, -2, -1, 0, 1, 2, 3, 6]
FAR = [None, 0, 1, -1, 2, 10 ** 30, -(10 ** 30), 5 * 10 ** 59, GREATEST - 1, GREATEST, -GREATEST]


def sound(sort, number, pins):
    if sort == "const":
        return {(0, number)}
    names = PIN_NAMES[len(pins)]
    known = {name: value for name, value in zip(names, pins) if value is not None}
    return {
        (names.index(pin), eval(value, {}, known))
        for need, hold, pin, value in ROWS[sort]
        if all(name in known for name in need) and eval(hold, {}, known)
    }


def due(sort, number, way, pins):
    out = len(pins) - 1
    word, by = way or (None, None)
    if word == "stuck":
        pairs = {(out, by)}
    elif word == "pass":
        pairs = {(out, pins[by - 1]), (by - 1, pins[out])}
    elif word == "off":
        seen = pins[:-1] + [None if pins[out] is None else pins[out] - by]
        pairs = {(pin, value + by if pin == out else value) for pin, value in sound(sort, number, seen)}
    elif word == "flip":
        seen = pins[:-1] + [None if pins[out] is None else 1 - pins[out]]
        pairs = {(pin, 1 - value if pin == out else value) for pin, value in sound(sort, number, seen)}
    else:
        pairs = sound(sort, number, pins)
    return sorted(pair for pair in pairs if pair[1] is not None and abs(pair[1]) < 10 ** 60)


def pins_walked(kinds, numbers):
    return [list(pins) for pins in itertools.product(*[numbers if kind == "number" else [None, 0, 1] for kind in kinds])]


def sorts_walked():
    for sort in PINS:
        if sort != "hold":
            for x in "nt" if "x" in PINS[sort] else "n":
                yield sort, [KIND[x if sign == "x" else sign] for sign in PINS[sort]]


class Told(unittest.TestCase):
    def assert_forced(self, sort, pins, pairs, way=None, number=None):
        with self.subTest(sort=sort, way=way, pins=pins):
            told = asked(self, forced, sort, number, way, pins)
            self.assertEqual(told, pairs)
            self.assertIs(type(told), list)
            self.assertTrue(all(type(pair) is tuple for pair in told))
            assert_plain(self, told)

    def test_add(self):
        self.assert_forced("add", [None, None, None], [])
        self.assert_forced("add", [2, None, None], [])
        self.assert_forced("add", [2, 3, None], [(2, 5)])
        self.assert_forced("add", [2, None, 9], [(1, 7)])
        self.assert_forced("add", [None, 3, 1], [(0, -2)])
        self.assert_forced("add", [2, 3, 5], [(0, 2), (1, 3), (2, 5)])
        self.assert_forced("add", [2, 3, 6], [(0, 3), (1, 4), (2, 5)])

    def test_times(self):
        self.assert_forced("times", [2, 3, None], [(2, 6)])
        self.assert_forced("times", [0, None, None], [(2, 0)])
        self.assert_forced("times", [None, 0, None], [(2, 0)])
        self.assert_forced("times", [0, None, 5], [(2, 0)])
        self.assert_forced("times", [0, None, 0], [(2, 0)])
        self.assert_forced("times", [3, None, -6], [(1, -2)])
        self.assert_forced("times", [-3, None, 6], [(1, -2)])
        self.assert_forced("times", [4, None, 6], [])
        self.assert_forced("times", [None, 4, 8], [(0, 2)])
        self.assert_forced("times", [None, 4, 0], [(0, 0)])
        self.assert_forced("times", [None, None, 0], [])
        self.assert_forced("times", [2, 3, 8], [(1, 4), (2, 6)])

    def test_copy_const_not(self):
        self.assert_forced("copy", [None, None], [])
        self.assert_forced("copy", [4, None], [(1, 4)])
        self.assert_forced("copy", [None, -4], [(0, -4)])
        self.assert_forced("copy", [4, 5], [(0, 5), (1, 4)])
        self.assert_forced("const", [None], [(0, 7)], number=7)
        self.assert_forced("const", [3], [(0, 7)], number=7)
        self.assert_forced("not", [0, None], [(1, 1)])
        self.assert_forced("not", [None, 0], [(0, 1)])
        self.assert_forced("not", [1, 1], [(0, 0), (1, 0)])

    def test_and_or_xor(self):
        self.assert_forced("and", [0, None, None], [(2, 0)])
        self.assert_forced("and", [1, None, None], [])
        self.assert_forced("and", [None, None, 1], [(0, 1), (1, 1)])
        self.assert_forced("and", [None, None, 0], [])
        self.assert_forced("and", [1, None, 0], [(1, 0)])
        self.assert_forced("and", [None, 1, 0], [(0, 0)])
        self.assert_forced("and", [1, 1, None], [(2, 1)])
        self.assert_forced("and", [0, 1, 1], [(0, 1), (1, 1), (2, 0)])
        self.assert_forced("or", [1, None, None], [(2, 1)])
        self.assert_forced("or", [0, 0, None], [(2, 0)])
        self.assert_forced("or", [None, None, 0], [(0, 0), (1, 0)])
        self.assert_forced("or", [0, None, 1], [(1, 1)])
        self.assert_forced("or", [None, None, 1], [])
        self.assert_forced("xor", [1, 1, None], [(2, 0)])
        self.assert_forced("xor", [1, None, 0], [(1, 1)])
        self.assert_forced("xor", [None, 0, 1], [(0, 1)])
        self.assert_forced("xor", [0, None, None], [])

    def test_more_and_pick(self):
        self.assert_forced("more", [2, 1, None], [(2, 1)])
        self.assert_forced("more", [1, 1, None], [(2, 0)])
        self.assert_forced("more", [-2, -1, 1], [(2, 0)])
        self.assert_forced("more", [2, None, 1], [])
        self.assert_forced("pick", [1, 5, None, None], [(3, 5)])
        self.assert_forced("pick", [0, 5, None, None], [])
        self.assert_forced("pick", [0, None, 6, None], [(3, 6)])
        self.assert_forced("pick", [1, None, None, 4], [(1, 4)])
        self.assert_forced("pick", [0, None, None, 4], [(2, 4)])
        self.assert_forced("pick", [None, 5, None, 4], [(0, 0), (2, 4)])
        self.assert_forced("pick", [None, None, 5, 4], [(0, 1), (1, 4)])
        self.assert_forced("pick", [None, 5, 5, None], [(3, 5)])
        self.assert_forced("pick", [None, 5, 6, None], [])
        self.assert_forced("pick", [None, 5, None, 5], [])
        self.assert_forced("pick", [None, 1, 2, 3], [(0, 0), (0, 1), (1, 3), (2, 3)])

    def test_a_pin_forced_to_two_values(self):
        self.assert_forced("and", [0, 1, 1], [(0, 1), (1, 1), (2, 0)])
        self.assert_forced("pick", [1, 2, 3, 4], [(0, 0), (0, 1), (1, 4), (2, 4), (3, 2)])
        self.assert_forced("pick", [0, 1, 1, 0], [(0, 0), (0, 1), (1, 0), (2, 0), (3, 1)])

    def test_ways(self):
        self.assert_forced("add", [2, 3, None], [(2, 9)], ("stuck", 9))
        self.assert_forced("add", [2, 3, 4], [(2, 9)], ("stuck", 9))
        self.assert_forced("add", [2, 3, None], [(2, 15)], ("off", 10))
        self.assert_forced("add", [2, None, 15], [(1, 3)], ("off", 10))
        self.assert_forced("times", [3, None, 7], [(1, 2)], ("off", 1))
        self.assert_forced("times", [0, None, None], [(2, -4)], ("off", -4))
        self.assert_forced("pick", [None, 5, None, 5], [(0, 0), (2, 4)], ("off", 1))
        self.assert_forced("pick", [None, 5, 5, None], [(3, 6)], ("off", 1))
        self.assert_forced("const", [None], [(0, 5)], ("off", -2), 7)
        self.assert_forced("const", [5], [(0, 0)], ("flip", None), 1)
        self.assert_forced("and", [1, 1, None], [(2, 0)], ("flip", None))
        self.assert_forced("and", [None, None, 0], [(0, 1), (1, 1)], ("flip", None))
        self.assert_forced("not", [1, None], [(1, 1)], ("flip", None))
        self.assert_forced("more", [2, 1, None], [(2, 0)], ("flip", None))
        self.assert_forced("add", [2, 3, None], [(2, 3)], ("pass", 2))
        self.assert_forced("add", [None, 3, 5], [(1, 5), (2, 3)], ("pass", 2))
        self.assert_forced("add", [2, None, None], [], ("pass", 2))
        self.assert_forced("pick", [0, 1, 0, None], [(3, 0)], ("pass", 1))

    def test_sixty_figures(self):
        self.assert_forced("add", [GREATEST, 0, None], [(2, GREATEST)])
        self.assert_forced("add", [GREATEST, 1, None], [])
        self.assert_forced("add", [-GREATEST, -1, None], [])
        self.assert_forced("add", [1, None, -GREATEST], [])
        self.assert_forced("add", [None, -1, GREATEST], [])
        self.assert_forced("add", [GREATEST, 1, 5], [(0, 4), (1, 5 - GREATEST)])
        self.assert_forced("times", [10 ** 30, 10 ** 30, None], [])
        self.assert_forced("times", [10 ** 30, 10 ** 29, None], [(2, 10 ** 59)])
        self.assert_forced("times", [10 ** 30, -(10 ** 30), 10 ** 59], [(0, -(10 ** 29)), (1, 10 ** 29)])

    def test_sixty_figures_with_off(self):
        self.assert_forced("copy", [GREATEST, None], [], ("off", 1))
        self.assert_forced("copy", [None, -GREATEST], [], ("off", 1))
        self.assert_forced("copy", [GREATEST, None], [(1, 0)], ("off", -GREATEST))
        self.assert_forced("add", [GREATEST, 1, None], [(2, GREATEST)], ("off", -1))
        self.assert_forced("add", [GREATEST, 1, None], [], ("off", 0))
        self.assert_forced("add", [-1, None, -GREATEST], [(1, -GREATEST)], ("off", 1))
        self.assert_forced("times", [10 ** 30, 10 ** 30, None], [(2, GREATEST)], ("off", -1))
        # 10 ** 60 lies beyond, but only the pair at the end is looked at.
        self.assert_forced("times", [10 ** 30, None, GREATEST], [(1, 10 ** 30)], ("off", -1))
        self.assert_forced("times", [2, None, -GREATEST], [(1, -(5 * 10 ** 59))], ("off", 1))
        self.assert_forced("const", [None], [], ("off", 1), GREATEST)
        self.assert_forced("const", [None], [(0, GREATEST - 1)], ("off", -1), GREATEST)


class Walked(unittest.TestCase):
    def assert_all(self, sort, number, ways, walked):
        for way in ways:
            for pins in walked:
                told = forced(sort, number, way, list(pins))
                if told != due(sort, number, way, pins):
                    self.assertEqual((sort, way, pins, told), (sort, way, pins, due(sort, number, way, pins)))

    def test_every_sort_and_way_with_small_values(self):
        for sort, kinds in sorts_walked():
            numbers = ([0, 1] if kinds[-1] == "truth" else [-3, 0, 4]) if sort == "const" else [None]
            for number in numbers:
                self.assert_all(sort, number, [None] + ways_for(sort, kinds), pins_walked(kinds, NEAR))

    def test_every_sort_and_way_with_great_values(self):
        ways = [("off", GREATEST), ("off", -GREATEST), ("stuck", GREATEST), ("off", 1), ("off", -1)]
        for sort, kinds in sorts_walked():
            if "number" in kinds:
                numbers = [GREATEST, -GREATEST, 0] if sort == "const" else [None]
                for number in numbers:
                    more = ways if kinds[-1] == "number" else []
                    self.assert_all(sort, number, [None] + ways_for(sort, kinds) + more, pins_walked(kinds, FAR))

    def test_more_known_never_forces_less(self):
        for sort, kinds in sorts_walked():
            for way in [None] + ways_for(sort, kinds):
                for pins in pins_walked(kinds, [None, 0, 1, 2]):
                    told = forced(sort, 1 if sort == "const" else None, way, pins)
                    for pin in range(len(pins)):
                        fewer = pins[:pin] + [None] + pins[pin + 1:]
                        less = forced(sort, 1 if sort == "const" else None, way, fewer)
                        self.assertTrue(set(less) <= set(told))


if __name__ == "__main__":
    unittest.main()
