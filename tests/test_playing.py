import random
import unittest

from faultwhy.errors import Ring, TooGreat
from faultwhy.ordering import order_of
from faultwhy.playing import play_work
from tests.helper import (
    GREATEST, asked, assert_plain, free_of, kinds_of, part_kinds, random_inputs, random_value, random_work, ways_for, work_of,
)

# Point 13: what each sort gives for known ins.
GIVES = {
    "add": lambda a, b: a + b, "times": lambda a, b: a * b, "copy": lambda a: a, "not": lambda a: 1 - a,
    "and": lambda a, b: min(a, b), "or": lambda a, b: max(a, b), "xor": lambda a, b: (a + b) % 2,
    "more": lambda a, b: int(a > b), "pick": lambda t, a, b: a if t == 1 else b,
}
WIRES = ["wire a number", "wire b number", "wire c number", "wire s truth", "wire t truth", "wire u truth"]


def due_value(part, mode, turn, now, before):
    name, sort, pins, number, ways = part
    word, by = mode or (None, None)
    if word == "does":
        return by[turn]
    if word == "stuck":
        return by
    if word == "pass":
        return now[pins[by - 1]]
    if sort == "const":
        value = number
    elif sort == "hold":
        value = before[pins[0]] if turn else number
    else:
        value = GIVES[sort](*[now[wire] for wire in pins[:-1]])
    return 1 - value if word == "flip" else value + by if word == "off" else value


def due_play(work, inputs, modes):
    # The values by turns, or the part and the turn of the first value that is too great.
    parts = {part[0]: part for part in work[1]}
    told, before = [], {}
    for turn, given in enumerate(inputs):
        now = dict(zip(free_of(work), given))
        for name in order_of(work):
            now[parts[name][2][-1]] = value = due_value(parts[name], modes.get(name), turn, now, before)
            if not -(10 ** 60) < value < 10 ** 60:
                return (name, turn)
        told.append([now[wire[0]] for wire in work[0]])
        before = now
    return told


class Asked(unittest.TestCase):
    def assert_played(self, work, inputs, modes, due):
        told = asked(self, play_work, work, inputs, modes)
        self.assertEqual(told, due)
        self.assertEqual(due_play(work, inputs, modes), due)
        assert_plain(self, told)

    def assert_too_great(self, work, inputs, modes, part, turn):
        with self.assertRaises(TooGreat) as taken:
            play_work(work, inputs, modes)
        self.assertEqual((taken.exception.part, taken.exception.turn), (part, turn))
        self.assertEqual(due_play(work, inputs, modes), (part, turn))


class Playing(Asked):
    def test_a_work_without_parts_or_free_wires(self):
        self.assert_played(([], []), [[]], {}, [[]])
        self.assert_played(([], []), [[], []], {}, [[], []])
        work = work_of("wire a number", "wire t truth")
        self.assert_played(work, [[4, 1], [-4, 0]], {}, [[4, 1], [-4, 0]])
        work = work_of("wire a number", "wire b number", "part k const a 3", "part p add a a b")
        self.assert_played(work, [[], [], []], {}, [[3, 6]] * 3)

    def test_each_sort(self):
        for row, given, out, value in (
            ("add a b c", [2, -5], 2, -3), ("times a b c", [2, -5], 2, -10), ("copy a b", [7, 0], 1, 7),
            ("more a b t", [2, 1, 0], 4, 1), ("more a b t", [1, 1, 0], 4, 0), ("more a b t", [-2, -1, 0], 4, 0),
        ):
            work = work_of(*WIRES, "part p " + row)
            inputs = [given + [0] * (len(free_of(work)) - len(given))]
            with self.subTest(row=row):
                told = play_work(work, inputs, {})
                self.assertEqual(told, due_play(work, inputs, {}))
                self.assertEqual(told[0][out], value)

    def test_each_sort_of_truths(self):
        for sort, values in (("and", [0, 0, 0, 1]), ("or", [0, 1, 1, 1]), ("xor", [0, 1, 1, 0])):
            work = work_of("wire s truth", "wire t truth", "wire u truth", f"part p {sort} s t u")
            for number, value in enumerate(values):
                self.assert_played(work, [[number // 2, number % 2]], {}, [[number // 2, number % 2, value]])
        work = work_of("wire s truth", "wire t truth", "part p not s t")
        self.assert_played(work, [[0], [1]], {}, [[0, 1], [1, 0]])

    def test_pick(self):
        work = work_of("wire t truth", "wire a number", "wire b number", "wire c number", "part p pick t a b c")
        self.assert_played(work, [[1, 5, 6], [0, 5, 6], [1, 5, 5], [0, 5, 5]], {},
                           [[1, 5, 6, 5], [0, 5, 6, 6], [1, 5, 5, 5], [0, 5, 5, 5]])

    def test_holds_over_turns(self):
        work = work_of("wire n number", "wire one number", "wire m number", "part k const one 1", "part h hold m n 10",
                       "part p add n one m")
        for turns in range(1, 7):
            self.assert_played(work, [[]] * turns, {}, [[10 + turn, 1, 11 + turn] for turn in range(turns)])

    def test_a_hold_of_a_free_wire_and_of_its_own_out(self):
        work = work_of("wire a truth", "wire b truth", "wire c truth", "part h hold a b 1", "part g hold c c 0")
        self.assert_played(work, [[0], [1], [0]], {}, [[0, 1, 0], [1, 0, 0], [0, 1, 0]])

    def test_free_wires_in_the_works_order(self):
        work = work_of("wire z number", "wire out number", "wire a number", "wire m truth", "part p add a z out")
        self.assert_played(work, [[1, 2, 0], [30, 4, 1]], {}, [[1, 3, 2, 0], [30, 34, 4, 1]])

    def test_parts_against_the_order_of_their_rows(self):
        work = work_of("wire a number", "wire b number", "wire c number", "part q add b b c", "part p add a a b")
        self.assert_played(work, [[3]], {}, [[3, 6, 12]])

    def test_ways(self):
        work = work_of(*WIRES, "part p add a b c", "part q and s t u")
        given = [2, 3, 1, 0]
        for modes, c, u in (
            ({}, 5, 0), ({"p": None, "q": None}, 5, 0), ({"p": None}, 5, 0), ({"p": ("stuck", -9), "q": ("stuck", 1)}, -9, 1),
            ({"p": ("off", 10), "q": ("flip", None)}, 15, 1), ({"p": ("pass", 1), "q": ("pass", 1)}, 2, 1),
            ({"p": ("pass", 2), "q": ("pass", 2)}, 3, 0), ({"p": ("does", [77])}, 77, 0), ({"q": ("does", [1])}, 5, 1),
        ):
            self.assert_played(work, [given], modes, [[2, 3, c, 1, 0, u]])

    def test_ways_of_holds_and_consts(self):
        work = work_of("wire a number", "wire b number", "wire k number", "part h hold a b 5", "part c const k 7")
        inputs = [[1], [2], [3]]
        for modes, due in (
            ({"h": ("off", 100)}, [[1, 105, 7], [2, 101, 7], [3, 102, 7]]),
            ({"h": ("stuck", 9)}, [[1, 9, 7], [2, 9, 7], [3, 9, 7]]),
            ({"h": ("does", [4, 5, 6])}, [[1, 4, 7], [2, 5, 7], [3, 6, 7]]),
            ({"c": ("off", -7)}, [[1, 5, 0], [2, 1, 0], [3, 2, 0]]),
            ({"c": ("does", [0, 1, 2])}, [[1, 5, 0], [2, 1, 1], [3, 2, 2]]),
        ):
            self.assert_played(work, inputs, modes, due)
        work = work_of("wire a truth", "wire b truth", "part h hold a b 0")
        self.assert_played(work, [[1], [1], [0]], {"h": ("flip", None)}, [[1, 1], [1, 0], [0, 0]])

    def test_what_a_part_at_fault_does_goes_on(self):
        work = work_of("wire a number", "wire b number", "wire c number", "wire d number", "part p copy a b",
                       "part q add b b c", "part h hold c d 0")
        self.assert_played(work, [[1], [1]], {"p": ("does", [5, 6])}, [[1, 5, 10, 0], [1, 6, 12, 10]])

    def test_random_works_with_random_modes(self):
        rng = random.Random(6)
        for number in range(400):
            work = random_work(rng, rng.randint(1, 12))
            turns = rng.randint(1, 6)
            modes = {}
            for part in work[1]:
                kinds = part_kinds(work, part)
                does = ("does", [random_value(rng, kinds[-1]) for turn in range(turns)])
                if rng.random() < 0.6:
                    modes[part[0]] = rng.choice([None, does] + ways_for(part[1], kinds))
            inputs = random_inputs(rng, work, turns)
            due = due_play(work, inputs, modes)
            if isinstance(due, list):
                self.assert_played(work, inputs, modes, due)
                for row in due:
                    for value, kind in zip(row, kinds_of(work).values()):
                        self.assertTrue(kind == "number" or value in (0, 1))


class TooGreats(Asked):
    def test_at_the_ends_of_sixty_figures(self):
        work = work_of("wire a number", "wire b number", "wire c number", "part p add a b c")
        self.assert_played(work, [[GREATEST, 0]], {}, [[GREATEST, 0, GREATEST]])
        self.assert_played(work, [[1 - GREATEST, -1]], {}, [[1 - GREATEST, -1, -GREATEST]])
        self.assert_too_great(work, [[GREATEST, 1]], {}, "p", 0)
        self.assert_too_great(work, [[-GREATEST, -1]], {}, "p", 0)
        self.assert_too_great(work, [[0, 0], [1, 1], [GREATEST, GREATEST]], {}, "p", 2)

    def test_times_and_off(self):
        work = work_of("wire a number", "wire b number", "wire c number", "part p times a b c")
        self.assert_played(work, [[10 ** 30, 10 ** 29]], {}, [[10 ** 30, 10 ** 29, 10 ** 59]])
        self.assert_too_great(work, [[10 ** 30, -(10 ** 30)]], {}, "p", 0)
        self.assert_too_great(work, [[1, GREATEST]], {"p": ("off", 1)}, "p", 0)
        self.assert_too_great(work, [[1, -GREATEST]], {"p": ("off", -1)}, "p", 0)

    def test_a_way_brings_a_value_back(self):
        work = work_of("wire a number", "wire b number", "wire c number", "part p add a b c")
        given = [GREATEST, 1]
        for way, value in ((("off", -1), GREATEST), (("stuck", 4), 4), (("pass", 2), 1), (("does", [8]), 8)):
            self.assert_played(work, [given], {"p": way}, [given + [value]])

    def test_the_first_one_by_turns_and_then_by_the_order(self):
        rows = ["wire a number", "wire b number", "wire c number", "wire d number"]
        work = work_of(*rows, "part q add b b c", "part p add a a b", "part r times a a d")
        # p goes ahead of q by the order, and r is refused only where the others are not.
        self.assert_too_great(work, [[1], [GREATEST]], {}, "p", 1)
        self.assert_too_great(work, [[3 * 10 ** 59]], {}, "q", 0)
        self.assert_too_great(work, [[10 ** 30]], {}, "r", 0)
        self.assert_too_great(work, [[10 ** 30], [GREATEST]], {}, "r", 0)

    def test_over_holds(self):
        work = work_of("wire a number", "wire b number", "part h hold b a 10", "part p times a a b")
        self.assert_played(work, [[]] * 5, {}, [[10 ** (2 ** turn), 10 ** (2 ** (turn + 1))] for turn in range(5)])
        self.assert_too_great(work, [[]] * 6, {}, "p", 5)

    def test_a_hold_with_off(self):
        work = work_of("wire a number", "wire b number", "part h hold a b 10")
        self.assert_too_great(work, [[GREATEST], [0]], {"h": ("off", 1)}, "h", 1)
        self.assert_played(work, [[GREATEST]], {"h": ("off", 1)}, [[GREATEST, 11]])
        work = work_of("wire a number", "part k const a " + "9" * 60)
        self.assert_too_great(work, [[]], {"k": ("off", 1)}, "k", 0)

    def test_random_works_with_great_values(self):
        rng = random.Random(7)
        sorts = ["add", "times", "copy", "hold", "pick", "more", "const"]
        seen = 0
        for number in range(400):
            work = random_work(rng, rng.randint(1, 12), sorts=sorts)
            turns = rng.randint(1, 6)
            inputs = random_inputs(rng, work, turns, far=True)
            modes = {}
            for part in work[1]:
                if rng.random() < 0.5:
                    modes[part[0]] = rng.choice([None] + ways_for(part[1], part_kinds(work, part)))
            due = due_play(work, inputs, modes)
            if isinstance(due, tuple):
                seen += 1
                self.assert_too_great(work, inputs, modes, *due)
            else:
                self.assert_played(work, inputs, modes, due)
        self.assertTrue(20 < seen < 380)


class Rings(unittest.TestCase):
    ROWS = ["wire a number", "wire b number", "wire c number", "wire d number", "part z add c c d", "part p copy a b",
            "part q copy b a"]

    def assert_ring(self, inputs, modes):
        with self.assertRaises(Ring) as taken:
            play_work(work_of(*self.ROWS), inputs, modes)
        self.assertEqual(sorted(taken.exception.names), ["p", "q"])

    def test_whatever_the_modes_are(self):
        for modes in ({}, {"p": None}, {"p": ("stuck", 1)}, {"p": ("stuck", 1), "q": ("stuck", 1)},
                      {"p": ("does", [1]), "q": ("does", [1])}, {"p": ("off", 1)}):
            self.assert_ring([[1]], modes)

    def test_ahead_of_a_value_that_is_too_great(self):
        self.assert_ring([[GREATEST]], {})
        self.assert_ring([[0], [GREATEST]], {"p": ("stuck", 1)})


if __name__ == "__main__":
    unittest.main()
