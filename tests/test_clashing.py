import itertools
import random
import unittest

from faultwhy.clashing import least_clash
from faultwhy.playing import play_work
from tests.helper import (
    asked, assert_plain, check_reckoning, clashes_with, random_inputs, random_readings, random_work, subsets, work_of,
)

CHAIN = work_of(
    "wire a number", "wire b number", "wire c number", "wire d number", "wire e number", "part p copy a b",
    "part q copy b c", "part r copy c d", "part s copy b e",
)


class LeastClashes(unittest.TestCase):
    def least(self, work, turns, readings, names):
        # Point 16, word by word.
        told = asked(self, least_clash, work, turns, readings, names)
        self.assertEqual(told is None, not clashes_with(work, turns, readings, names))
        if told is None:
            return None
        least, rows = told
        self.assertIs(type(told), tuple)
        self.assertIs(type(least), list)
        self.assertEqual(least, [name for name in names if name in least])
        self.assertTrue(clashes_with(work, turns, readings, least))
        for name in least:
            self.assertFalse(clashes_with(work, turns, readings, [other for other in least if other != name]))
        check_reckoning(self, work, turns, readings, dict.fromkeys(least), ("clash", rows))
        self.assertEqual({row[3] for row in rows} - {""}, set(least))
        assert_plain(self, told)
        return least

    def test_no_clash(self):
        self.assertIsNone(self.least(([], []), 1, [], []))
        self.assertIsNone(self.least(CHAIN, 3, [], list("pqrs")))
        self.assertIsNone(self.least(CHAIN, 1, [("a", 0, 1), ("d", 0, 1)], list("pqrs")))

    def test_no_names(self):
        self.assertIsNone(self.least(CHAIN, 1, [("a", 0, 1), ("b", 0, 2)], []))

    def test_one_part(self):
        self.assertEqual(self.least(CHAIN, 1, [("a", 0, 1), ("b", 0, 2)], list("pqrs")), ["p"])
        self.assertEqual(self.least(CHAIN, 1, [("a", 0, 1), ("b", 0, 2)], ["p"]), ["p"])

    def test_several_parts(self):
        self.assertEqual(self.least(CHAIN, 1, [("a", 0, 1), ("d", 0, 2)], list("pqrs")), ["p", "q", "r"])
        self.assertEqual(self.least(CHAIN, 1, [("e", 0, 1), ("d", 0, 2)], list("pqrs")), ["q", "r", "s"])

    def test_only_some_of_the_parts(self):
        readings = [("a", 0, 1), ("d", 0, 2)]
        for names in ("pq", "pr", "qr", "pqs", "qrs", "prs"):
            self.assertIsNone(self.least(CHAIN, 1, readings, list(names)))
        self.assertEqual(self.least(CHAIN, 1, readings, list("pqr")), ["p", "q", "r"])

    def test_several_least_clashes_in_one_list(self):
        readings = [("a", 0, 1), ("b", 0, 2), ("c", 0, 3), ("e", 0, 4)]
        self.assertIn(self.least(CHAIN, 1, readings, list("pqrs")), (["p"], ["q"], ["s"]))
        self.assertIn(self.least(CHAIN, 1, readings, list("qrs")), (["q"], ["s"]))
        self.assertEqual(self.least(CHAIN, 1, readings, list("rs")), ["s"])
        readings = [("a", 0, 1), ("c", 0, 2), ("e", 0, 3)]
        self.assertIn(self.least(CHAIN, 1, readings, list("pqrs")), (["p", "q"], ["p", "s"], ["q", "s"]))

    def test_over_turns(self):
        work = work_of("wire a number", "wire b number", "wire c number", "part h hold a b 0", "part g hold b c 5")
        self.assertEqual(self.least(work, 3, [("a", 0, 1), ("c", 2, 2)], ["h", "g"]), ["h", "g"])
        self.assertIsNone(self.least(work, 2, [("a", 0, 1), ("c", 1, 0)], ["h", "g"]))
        self.assertEqual(self.least(work, 2, [("c", 1, 1)], ["h", "g"]), ["h", "g"])
        self.assertEqual(self.least(work, 1, [("c", 0, 1)], ["h", "g"]), ["g"])

    def test_a_clash_that_is_found_with_more_parts_than_it_needs(self):
        # b at turn 0 comes from p as well as from q, but p is needed at turn 1 anyhow.
        wires, parts = work_of(
            "wire a number", "wire b number", "wire c number", "wire d number", "wire e number", "part p copy a b",
            "part q copy b c", "part h hold b d 1", "part s add b d e",
        )
        readings = [("a", 0, 1), ("c", 0, 1), ("a", 1, 5), ("e", 1, 9)]
        for order in itertools.permutations(parts):
            work = (wires, list(order))
            for again in itertools.permutations(readings):
                names = [part[0] for part in order]
                self.assertEqual(sorted(self.least(work, 2, list(again), names)), ["h", "p", "s"])

    def test_random_works(self):
        rng = random.Random(21)
        sizes = {}
        for number in range(400):
            work = random_work(rng, rng.randint(1, 12), wires=rng.randint(26, 30))
            turns = rng.randint(1, 6)
            played = play_work(work, random_inputs(rng, work, turns), {})
            readings = random_readings(rng, work, turns, played, rng.choice([0.1, 0.3, 0.6]), rng.choice([0.05, 0.3]))
            names = [part[0] for part in work[1] if rng.random() < 0.9]
            told = self.least(work, turns, readings, names)
            size = 0 if told is None else len(told)
            sizes[size] = sizes.get(size, 0) + 1
        self.assertTrue(all(sizes.get(size, 0) > 5 for size in range(4)), sizes)

    def test_a_set_that_holds_a_clashing_set_clashes_too(self):
        rng = random.Random(22)
        for number in range(20):
            work = random_work(rng, 5)
            played = play_work(work, random_inputs(rng, work, 2), {})
            readings = random_readings(rng, work, 2, played, 0.5, 0.2)
            names = [part[0] for part in work[1]]
            clashing = [one for one in subsets(names) if least_clash(work, 2, readings, one) is not None]
            for some in subsets(names):
                holds_one = any(set(one) <= set(some) for one in clashing)
                self.assertEqual(some in clashing, holds_one)


if __name__ == "__main__":
    unittest.main()
