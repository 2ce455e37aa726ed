import random
import unittest

from faultwhy.asking import next_reading
from faultwhy.explaining import all_reasons
from faultwhy.playing import play_work
from tests.helper import asked, random_inputs, random_readings, random_work, subsets, values_reckoned, work_of

CHAIN = work_of(
    "wire a number", "wire b number", "wire c number", "wire d number", "wire e number", "part p copy a b",
    "part q copy b c", "part r copy c d", "part s copy d e",
)
ENDS = [("a", 0, 1), ("e", 0, 2)]


def due_next(work, turns, readings, explanations):
    # Point 20, every place by its own count.
    tables = []
    for one in explanations:
        tables.append(values_reckoned(work, turns, readings, {part[0]: None for part in work[1] if part[0] not in one}))
    best = None
    for wire, kind, shut in work[0]:
        for turn in range(turns):
            if shut or (wire, turn) in [reading[:2] for reading in readings]:
                continue
            values = [table[(wire, turn)] for table in tables if (wire, turn) in table]
            count = len(tables) - len(values) + max([values.count(value) for value in values] + [0])
            if count < len(tables) and (best is None or count < best[2]):
                best = (wire, turn, count)
    return best


class Next(unittest.TestCase):
    def assert_next(self, work, turns, readings, explanations, due):
        told = asked(self, next_reading, work, turns, readings, explanations)
        self.assertEqual(told, due)
        self.assertEqual(told, due_next(work, turns, readings, explanations))
        for again in range(3):
            self.assertEqual(next_reading(work, turns, readings[::-1], [one[::-1] for one in explanations[::-1]]), due)

    def test_no_explanations(self):
        self.assert_next(CHAIN, 1, ENDS, [], None)
        self.assert_next(CHAIN, 1, [], [], None)
        self.assert_next(([], []), 1, [], [], None)

    def test_one_explanation(self):
        self.assert_next(CHAIN, 1, ENDS, [["p"]], None)
        self.assert_next(CHAIN, 6, [], [[]], None)

    def test_a_chain_is_halved(self):
        # b is 1 unless p is at fault, then it is 2; c splits the four in halves.
        self.assert_next(CHAIN, 1, ENDS, [["p"], ["q"], ["r"], ["s"]], ("c", 0, 2))
        self.assert_next(CHAIN, 1, ENDS, [["p"], ["q"], ["r"]], ("b", 0, 2))
        self.assert_next(CHAIN, 1, ENDS, [["p"], ["q"]], ("b", 0, 1))
        self.assert_next(CHAIN, 1, ENDS, [["r"], ["s"]], ("d", 0, 1))

    def test_shut_wires_are_left_out(self):
        for shut, due in (("c", ("b", 0, 3)), ("bc", ("d", 0, 3)), ("bcd", None)):
            wires = [(name, kind, name in shut) for name, kind, was in CHAIN[0]]
            self.assert_next((wires, CHAIN[1]), 1, ENDS, [["p"], ["q"], ["r"], ["s"]], due)

    def test_places_already_read_are_left_out(self):
        readings = ENDS + [("c", 0, 1)]
        self.assert_next(CHAIN, 1, readings, [["r"], ["s"]], ("d", 0, 1))
        self.assert_next(CHAIN, 1, readings + [("d", 0, 7)], [["r", "s"]], None)
        # A place that was read is not told again, though it would part the two.
        self.assert_next(CHAIN, 1, [("a", 0, 1), ("b", 0, 5), ("e", 0, 5)], [["p"], ["p", "q"]], None)

    def test_equals_go_by_the_wires_order_and_then_by_turns(self):
        turned = (list(reversed(CHAIN[0])), CHAIN[1])
        self.assert_next(turned, 1, ENDS, [["p"], ["q"], ["r"]], ("c", 0, 2))
        readings = ENDS + [("a", 1, 1), ("e", 1, 2)]
        self.assert_next(CHAIN, 2, readings, [["p"], ["q"], ["r"], ["s"]], ("c", 0, 2))
        readings = [("a", 1, 1), ("e", 1, 2), ("a", 2, 1), ("e", 2, 2)]
        self.assert_next(CHAIN, 3, readings, [["p"], ["q"], ["r"], ["s"]], ("c", 1, 2))
        self.assert_next(CHAIN, 3, readings + [("c", 1, 1)], [["r"], ["s"]], ("d", 1, 1))

    def test_a_later_wire_that_leaves_fewer_comes_first(self):
        self.assert_next(CHAIN, 2, [("a", 1, 1), ("e", 1, 2)], [["p"], ["q"], ["r"], ["s"]], ("c", 1, 2))

    def test_explanations_whose_table_has_no_value_there(self):
        # Without q and r nothing is known of c; the other two have 1 and 2 there.
        wires = [(name, kind, name in "bd") for name, kind, shut in CHAIN[0]]
        self.assert_next((wires, CHAIN[1]), 1, ENDS, [["p"], ["q", "r"], ["s"]], ("c", 0, 2))
        self.assert_next((wires, CHAIN[1]), 1, ENDS, [["p"], ["q", "r"], ["q", "r", "s"]], None)
        self.assert_next(CHAIN, 1, ENDS, [["p"], ["q", "r"], ["s"]], ("b", 0, 2))
        self.assert_next(CHAIN, 1, ENDS, [["q", "r"], ["p", "q", "r"]], None)
        self.assert_next(CHAIN, 1, ENDS, [["p", "q", "r", "s"], ["p"], ["s"]], ("b", 0, 2))

    def test_explanations_that_are_not_least(self):
        self.assert_next(CHAIN, 1, [("a", 0, 1)], [[], ["p"], ["q"]], None)
        self.assert_next(CHAIN, 1, ENDS, [["p"], ["p", "s"], ["s"]], ("b", 0, 2))
        self.assert_next(CHAIN, 1, ENDS, [["p", "q", "r", "s"], ["p", "q", "r"]], None)

    def test_none_where_no_place_leaves_fewer(self):
        work = work_of("wire a number", "wire b number", "wire c number", "part p copy a b", "part q copy b c")
        self.assert_next(work, 1, [("a", 0, 1), ("b", 0, 2), ("c", 0, 3)], [["p", "q"]], None)
        wires = [(name, kind, True) for name, kind, shut in CHAIN[0]]
        self.assert_next((wires, CHAIN[1]), 1, ENDS, [["p"], ["q"], ["r"], ["s"]], None)

    def test_random_works(self):
        rng = random.Random(61)
        told = 0
        for number in range(300):
            sorts = rng.choice([None, ["copy", "not", "xor", "add", "hold"]])
            work = random_work(rng, rng.randint(3, 9), wires=rng.randint(12, 16), shut=0.2, sorts=sorts)
            turns = rng.randint(1, 6)
            played = play_work(work, random_inputs(rng, work, turns), {})
            readings = random_readings(rng, work, turns, played, rng.choice([0.2, 0.3, 0.4]), 0.4)
            explanations = all_reasons(work, turns, readings)[1]
            self.assert_next(work, turns, readings, explanations, due_next(work, turns, readings, explanations))
            told += next_reading(work, turns, readings, explanations) is not None
            names = [part[0] for part in work[1]]
            every = [one for one in subsets(names)[:300] if any(set(least) <= set(one) for least in explanations)]
            some = rng.sample(every, min(len(every), rng.randint(0, 8)))
            self.assert_next(work, turns, readings, some, due_next(work, turns, readings, some))
        self.assertTrue(told > 50, told)


if __name__ == "__main__":
    unittest.main()
