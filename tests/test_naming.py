import itertools
import random
import unittest

from faultwhy.errors import TooMany
from faultwhy.naming import named_ways
from faultwhy.playing import play_work
from tests.helper import asked, assert_plain, random_inputs, random_readings, random_work, values_reckoned, work_of

TWO = work_of(
    "wire a number", "wire b number", "wire c number", "wire d number",
    "part p copy a b", "way p off 1", "way p stuck 0", "way p pass 1",
    "part q add b a c", "way q off -1", "way q pass 2",
    "part r copy c d",
)


def due_ways(work, turns, readings, names):
    # Point 19: all rows walked, or None where there are too many.
    ways = [[part[4] for part in work[1] if part[0] == name][0] for name in names]
    rows = list(itertools.product(*[range(len(one)) for one in ways]))
    if len(rows) > 64:
        return None
    told = []
    for row in rows:
        modes = {part[0]: None for part in work[1]}
        modes.update({name: one[number] for name, one, number in zip(names, ways, row)})
        if values_reckoned(work, turns, readings, modes) is not None:
            told.append(list(row))
    return told


class Named(unittest.TestCase):
    def assert_ways(self, work, turns, readings, names, due):
        told = asked(self, named_ways, work, turns, readings, names)
        self.assertEqual(told, due)
        self.assertEqual(told, due_ways(work, turns, readings, names))
        self.assertIs(type(told), list)
        assert_plain(self, told)

    def test_the_empty_set(self):
        self.assert_ways(([], []), 1, [], [], [[]])
        self.assert_ways(TWO, 3, [], [], [[]])
        self.assert_ways(TWO, 1, [("a", 0, 1), ("d", 0, 2)], [], [[]])
        self.assert_ways(TWO, 1, [("a", 0, 1), ("d", 0, 3)], [], [])

    def test_a_part_without_ways(self):
        self.assert_ways(TWO, 1, [], ["r"], [])
        self.assert_ways(TWO, 1, [], ["p", "q", "r"], [])
        self.assert_ways(TWO, 1, [("a", 0, 1), ("d", 0, 3)], ["r"], [])

    def test_one_part(self):
        self.assert_ways(TWO, 1, [], ["p"], [[0], [1], [2]])
        self.assert_ways(TWO, 1, [("a", 0, 1), ("b", 0, 2)], ["p"], [[0]])
        self.assert_ways(TWO, 1, [("a", 0, 5), ("b", 0, 0)], ["p"], [[1]])
        self.assert_ways(TWO, 1, [("a", 0, 5), ("b", 0, 5)], ["p"], [[2]])
        self.assert_ways(TWO, 1, [("a", 0, -1), ("b", 0, 0)], ["p"], [[0], [1]])
        self.assert_ways(TWO, 1, [("a", 0, 5), ("b", 0, 7)], ["p"], [])

    def test_all_others_are_sound(self):
        # q sound makes d twice what p makes of a, and r hands it on.
        self.assert_ways(TWO, 1, [("a", 0, 3), ("d", 0, 7)], ["p"], [[0]])
        self.assert_ways(TWO, 1, [("a", 0, 3), ("d", 0, 7), ("c", 0, 6)], ["p"], [])

    def test_several_parts_in_the_order_of_the_rows(self):
        self.assert_ways(TWO, 1, [], ["p", "q"], [[0, 0], [0, 1], [1, 0], [1, 1], [2, 0], [2, 1]])
        self.assert_ways(TWO, 1, [("a", 0, 3), ("d", 0, 3)], ["p", "q"], [[0, 1], [1, 1], [2, 1]])
        self.assert_ways(TWO, 1, [("a", 0, 1), ("d", 0, 1)], ["p", "q"], [[0, 1], [1, 1], [2, 0], [2, 1]])

    def test_over_several_turns(self):
        self.assert_ways(TWO, 2, [("a", 0, -1), ("b", 0, 0), ("a", 1, 4), ("b", 1, 5)], ["p"], [[0]])
        self.assert_ways(TWO, 2, [("a", 0, -1), ("b", 0, 0), ("a", 1, 4), ("b", 1, 0)], ["p"], [[1]])
        self.assert_ways(TWO, 2, [("a", 0, -1), ("b", 0, 0), ("a", 1, 4), ("b", 1, 4)], ["p"], [])
        work = work_of("wire a truth", "wire b truth", "part h hold a b 0", "way h flip", "way h stuck 1", "way h stuck 0")
        self.assert_ways(work, 2, [("b", 0, 1)], ["h"], [[0], [1]])
        self.assert_ways(work, 2, [("b", 0, 1), ("a", 0, 1), ("b", 1, 0)], ["h"], [[0]])
        self.assert_ways(work, 2, [("b", 0, 1), ("a", 0, 1), ("b", 1, 1)], ["h"], [[1]])

    def counted(self, counts):
        # A work of parts with so many ways each.
        wires, parts = [], []
        for number, count in enumerate(counts):
            wires.append((f"w{number}", "number", False))
            parts.append((f"p{number}", "const", [f"w{number}"], 1, [("stuck", way) for way in range(count)]))
        return (wires, parts), [part[0] for part in parts]

    def test_sixty_four_rows_and_more(self):
        for counts, count in (([2] * 6, 64), ([1] * 12, 1), ([3, 3, 3, 2], 54), ([1, 2, 2, 2, 2, 2, 2], 64)):
            work, names = self.counted(counts)
            with self.subTest(counts=counts):
                self.assertEqual(len(named_ways(work, 1, [], names)), count)
                self.assertEqual(named_ways(work, 1, [], names), due_ways(work, 1, [], names))
        # More ways than a part of a text may have, for the edge itself.
        work, names = self.counted([5, 13])
        with self.assertRaises(TooMany):
            named_ways(work, 1, [], names)
        for counts in ([3, 3, 3, 3], [2] * 7, [3, 3, 2, 2, 2], [3] * 12, [3, 2, 2, 2, 3]):
            work, names = self.counted(counts)
            with self.subTest(counts=counts):
                with self.assertRaises(TooMany):
                    named_ways(work, 1, [], names)

    def test_the_count_is_looked_at_first_whether_they_fit_or_not(self):
        work, names = self.counted([3, 3, 3, 3])
        with self.assertRaises(TooMany):
            named_ways(work, 1, [("w0", 0, 99)], names)
        self.assertEqual(named_ways(work, 1, [("w0", 0, 99)], names[:3]), [])

    def test_a_part_without_ways_is_never_too_many(self):
        for counts in ([3, 3, 3, 3, 0], [0, 3, 3, 3, 3], [3] * 11 + [0]):
            work, names = self.counted(counts)
            self.assertEqual(named_ways(work, 1, [], names), [])

    def test_random_works(self):
        rng = random.Random(51)
        some = 0
        for number in range(250):
            work = random_work(rng, rng.randint(1, 8), ways=rng.randint(1, 3))
            turns = rng.randint(1, 4)
            faulty = [part for part in work[1] if part[4] and rng.random() < 0.4]
            modes = {part[0]: rng.choice(part[4]) for part in faulty}
            played = play_work(work, random_inputs(rng, work, turns), modes)
            readings = random_readings(rng, work, turns, played, 0.5, 0.02)
            names = [part[0] for part in faulty]
            due = due_ways(work, turns, readings, names)
            if due is None:
                with self.assertRaises(TooMany):
                    named_ways(work, turns, readings, names)
            else:
                self.assert_ways(work, turns, readings, names, due)
                some += 0 < len(due) < len(due_ways(work, turns, [], names))
        self.assertTrue(some > 30, some)


if __name__ == "__main__":
    unittest.main()
