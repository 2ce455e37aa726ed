import random
import time
import unittest

from faultwhy.explaining import all_reasons, cleared_parts, sure_parts
from faultwhy.playing import play_work
from tests.helper import (
    asked, clashes_with, random_inputs, random_readings, random_value, random_work, subsets, work_of,
)

CHAIN = work_of(
    "wire a number", "wire b number", "wire c number", "wire d number", "wire e number", "part p copy a b",
    "part q copy b c", "part r copy c d", "part s copy b e",
)


def least_of(sets):
    return [one for one in sets if not any(set(other) < set(one) for other in sets)]


def fewer(one):
    return [one[:place] + one[place + 1:] for place in range(len(one))]


def due_reasons(work, turns, readings):
    # Point 18 by all sets walked; subsets come in the told order by themselves. A set that
    # holds a clashing one clashes, so for being least it is enough to leave out one part at a time.
    names = [part[0] for part in work[1]]
    clashing = {tuple(one): clashes_with(work, turns, readings, one) for one in subsets(names)}

    def explains(one):
        return not clashing[tuple(name for name in names if name not in one)]

    return (
        [one for one in subsets(names) if clashing[tuple(one)] and not any(clashing[tuple(less)] for less in fewer(one))],
        [one for one in subsets(names) if explains(one) and not any(explains(less) for less in fewer(one))],
    )


class Reasons(unittest.TestCase):
    def assert_reasons(self, work, turns, readings, due=None):
        told = asked(self, all_reasons, work, turns, readings)
        self.assertEqual(told, due_reasons(work, turns, readings) if due is None else due)
        self.assertIs(type(told), tuple)
        return told

    def test_no_clash_at_all(self):
        self.assert_reasons(([], []), 1, [], ([], [[]]))
        self.assert_reasons(CHAIN, 6, [], ([], [[]]))
        self.assert_reasons(CHAIN, 1, [("a", 0, 1), ("d", 0, 1)], ([], [[]]))

    def test_one_clash(self):
        self.assert_reasons(CHAIN, 1, [("a", 0, 1), ("b", 0, 2)], ([["p"]], [["p"]]))
        self.assert_reasons(CHAIN, 1, [("a", 0, 1), ("d", 0, 2)], ([["p", "q", "r"]], [["p"], ["q"], ["r"]]))

    def test_several_clashes(self):
        self.assert_reasons(CHAIN, 1, [("a", 0, 1), ("d", 0, 2), ("e", 0, 3)], (
            [["p", "s"], ["p", "q", "r"], ["q", "r", "s"]], [["p", "q"], ["p", "r"], ["p", "s"], ["q", "s"], ["r", "s"]],
        ))
        self.assert_reasons(CHAIN, 1, [("a", 0, 1), ("d", 0, 2), ("e", 0, 1)], (
            [["p", "q", "r"], ["q", "r", "s"]], [["q"], ["r"], ["p", "s"]],
        ))
        self.assert_reasons(CHAIN, 1, [("a", 0, 1), ("b", 0, 2), ("c", 0, 3), ("d", 0, 4), ("e", 0, 5)], (
            [["p"], ["q"], ["r"], ["s"]], [["p", "q", "r", "s"]],
        ))

    def test_the_order_is_the_works_not_the_names(self):
        work = work_of("wire a number", "wire b number", "wire c number", "wire d number", "part z copy a b",
                       "part m copy a c", "part b copy a d")
        self.assert_reasons(work, 1, [("b", 0, 1), ("c", 0, 2), ("d", 0, 3)], (
            [["z", "m"], ["z", "b"], ["m", "b"]], [["z", "m"], ["z", "b"], ["m", "b"]],
        ))

    def test_a_known_adder_and_multiplier_work(self):
        work = work_of(
            "wire a number", "wire b number", "wire c number", "wire d number", "wire e number", "wire x number",
            "wire y number", "wire z number", "wire f number", "wire g number", "part m1 times a c x",
            "part m2 times b d y", "part m3 times c e z", "part a1 add x y f", "part a2 add y z g",
        )
        readings = [("a", 0, 3), ("b", 0, 2), ("c", 0, 2), ("d", 0, 3), ("e", 0, 3), ("f", 0, 10), ("g", 0, 12)]
        told = self.assert_reasons(work, 1, readings, (
            [["m1", "m2", "a1"], ["m1", "m3", "a1", "a2"]], [["m1"], ["a1"], ["m2", "m3"], ["m2", "a2"]],
        ))
        self.assertEqual(sure_parts(work, told[1]), [])
        self.assertEqual(cleared_parts(work, told[1]), [])

    def test_random_works_against_all_sets(self):
        rng = random.Random(41)
        seen = 0
        for number in range(200):
            work = random_work(rng, rng.randint(3, 7), wires=rng.randint(10, 14), rings=rng.random() < 0.3)
            turns = rng.randint(1, 4)
            played = [[random_value(rng, wire[1]) for wire in work[0]] for turn in range(turns)]
            readings = random_readings(rng, work, turns, played, rng.choice([0.2, 0.35, 0.5]), 0)
            told = self.assert_reasons(work, turns, readings)
            seen += len(told[0]) > 1
        self.assertTrue(seen > 60, seen)

    def test_explanations_are_the_least_sets_that_meet_all_clashes(self):
        rng = random.Random(42)
        for number in range(60):
            work = random_work(rng, 7)
            turns = rng.randint(1, 6)
            played = play_work(work, random_inputs(rng, work, turns), {})
            readings = random_readings(rng, work, turns, played, 0.4, 0.2)
            clashes, explanations = all_reasons(work, turns, readings)
            names = [part[0] for part in work[1]]
            meeting = [one for one in subsets(names) if all(set(one) & set(clash) for clash in clashes)]
            self.assertEqual(explanations, least_of(meeting))
            for one in explanations:
                self.assertFalse(clashes_with(work, turns, readings, [name for name in names if name not in one]))

    def test_twelve_parts(self):
        rng = random.Random(43)
        before = time.monotonic()
        for number in range(60):
            work = random_work(rng, 12, wires=30)
            played = play_work(work, random_inputs(rng, work, 6), {})
            readings = random_readings(rng, work, 6, played, rng.choice([0.1, 0.3]), 0.2)
            clashes, explanations = all_reasons(work, 6, readings)
            names = [part[0] for part in work[1]]
            for clash in clashes:
                self.assertTrue(clashes_with(work, 6, readings, clash))
                self.assertEqual(clash, [name for name in names if name in clash])
            for one in explanations:
                self.assertTrue(all(set(one) & set(clash) for clash in clashes))
                self.assertFalse(clashes_with(work, 6, readings, [name for name in names if name not in one]))
        self.assertTrue(time.monotonic() - before < 60)

    def test_twelve_parts_of_which_any_two_clash(self):
        rows = ["wire a number"] + [f"wire w{number} number" for number in range(12)]
        rows += [f"part p{number} copy a w{number}" for number in range(12)]
        work = work_of(*rows)
        readings = [(f"w{number}", turn, number) for number in range(12) for turn in range(6)]
        names = [part[0] for part in work[1]]
        pairs = [[one, other] for place, one in enumerate(names) for other in names[place + 1:]]
        rests = [[name for name in names if name != one] for one in reversed(names)]
        self.assertEqual(all_reasons(work, 6, readings), (pairs, rests))

    def test_twelve_parts_with_many_clashes(self):
        # Parts are the edges of an octahedron between six wires of which one is read: each ring of edges clashes.
        edges = [(one, other) for one in range(6) for other in range(one + 1, 6) if one // 2 != other // 2]
        rows = [f"wire m{number} number" for number in range(6)] + [f"wire o{number} number" for number in range(12)]
        rows += [f"part p{number} add m{one} m{other} o{number}" for number, (one, other) in enumerate(edges)]
        readings = [("m0", 0, 0)] + [(f"o{number}", 0, 3 ** (number + 1)) for number in range(12)]
        told = self.assert_reasons(work_of(*rows), 1, readings)
        self.assertEqual((len(told[0]), len(told[1])), (134, 401))

    def test_twelve_parts_in_a_chain(self):
        rows = [f"wire w{number} truth" for number in range(13)]
        rows += [f"part p{number} not w{number} w{number + 1}" for number in range(12)]
        names = [f"p{number}" for number in range(12)]
        self.assertEqual(all_reasons(work_of(*rows), 6, [("w0", 5, 0), ("w12", 5, 1)]), ([names], [[name] for name in names]))


class Judged(unittest.TestCase):
    def assert_judged(self, explanations, sure, cleared):
        self.assertEqual(asked(self, sure_parts, CHAIN, explanations), sure.split())
        self.assertEqual(asked(self, cleared_parts, CHAIN, explanations), cleared.split())

    def test_the_empty_explanation_alone(self):
        self.assert_judged([[]], "", "p q r s")

    def test_one_explanation(self):
        self.assert_judged([["q"]], "q", "p r s")
        self.assert_judged([["p", "s"]], "p s", "q r")
        self.assert_judged([["p", "q", "r", "s"]], "p q r s", "")

    def test_several(self):
        self.assert_judged([["p"], ["q"]], "", "r s")
        self.assert_judged([["p", "q"], ["q", "s"]], "q", "r")
        self.assert_judged([["p", "q", "s"], ["q", "r", "s"]], "q s", "")

    def test_the_works_order(self):
        work = (CHAIN[0], list(reversed(CHAIN[1])))
        self.assertEqual(sure_parts(work, [["s", "p"]]), ["s", "p"])
        self.assertEqual(cleared_parts(work, [["q"]]), ["s", "r", "p"])

    def test_no_parts(self):
        self.assertEqual(sure_parts(([], []), [[]]), [])
        self.assertEqual(cleared_parts(([], []), [[]]), [])


if __name__ == "__main__":
    unittest.main()
