import random
import unittest

from faultwhy.playing import play_work
from faultwhy.reckoning import reckon
from tests.helper import (
    GREATEST, asked, assert_plain, check_reckoning, free_of, part_kinds, random_inputs, random_readings, random_value,
    random_work, values_reckoned, ways_for, work_of,
)

ADDERS = work_of(
    "wire a number", "wire b number", "wire c number", "wire d number", "wire e number",
    "part p add a b c", "part q times c c d", "part r add d b e",
)


def values_in(told):
    return {row[:2]: row[2] for row in told[1]}


class Reckoned(unittest.TestCase):
    def reckoned(self, work, turns, readings, modes):
        told = asked(self, reckon, work, turns, readings, modes)
        check_reckoning(self, work, turns, readings, modes, told)
        assert_plain(self, told)
        return told

    def assert_table(self, work, turns, readings, modes, due):
        told = self.reckoned(work, turns, readings, modes)
        self.assertEqual(told[0], "table")
        self.assertEqual(values_in(told), due)

    def assert_clash(self, work, turns, readings, modes):
        told = self.reckoned(work, turns, readings, modes)
        self.assertEqual(told[0], "clash")
        return told[1]


class Tables(Reckoned):
    def test_nothing(self):
        self.assertEqual(reckon(([], []), 1, [], {}), ("table", []))
        self.assertEqual(reckon(ADDERS, 6, [], {}), ("table", []))
        self.assertEqual(reckon(ADDERS, 6, [], {"p": None, "q": None, "r": None}), ("table", []))

    def test_readings_alone(self):
        self.assertEqual(reckon(ADDERS, 2, [("a", 1, 5)], {}), ("table", [("a", 1, 5, "", 1, [])]))
        told = self.reckoned(ADDERS, 2, [("e", 1, 5), ("a", 0, 4)], {})
        self.assertEqual(sorted(told[1]), [("a", 0, 4, "", 0, []), ("e", 1, 5, "", 1, [])])

    def test_forward_and_back(self):
        modes = {"p": None, "q": None, "r": None}
        self.assert_table(ADDERS, 1, [("a", 0, 2), ("b", 0, 3)], modes,
                          {("a", 0): 2, ("b", 0): 3, ("c", 0): 5, ("d", 0): 25, ("e", 0): 28})
        self.assert_table(ADDERS, 1, [("e", 0, 28), ("b", 0, 3)], modes, {("e", 0): 28, ("b", 0): 3, ("d", 0): 25})
        self.assert_table(ADDERS, 1, [("e", 0, 28), ("d", 0, 25), ("c", 0, 5)], modes,
                          {("e", 0): 28, ("b", 0): 3, ("d", 0): 25, ("c", 0): 5, ("a", 0): 2})

    def test_parts_that_are_not_in_the_modes_keep_to_nothing(self):
        readings = [("a", 0, 2), ("b", 0, 3)]
        self.assert_table(ADDERS, 1, readings, {"q": None, "r": None}, {("a", 0): 2, ("b", 0): 3})
        self.assert_table(ADDERS, 1, readings, {"p": None}, {("a", 0): 2, ("b", 0): 3, ("c", 0): 5})
        self.assert_table(ADDERS, 1, readings + [("c", 0, 9)], {"q": None}, {
            ("a", 0): 2, ("b", 0): 3, ("c", 0): 9, ("d", 0): 81,
        })

    def test_ways(self):
        readings = [("a", 0, 2), ("b", 0, 3)]
        for way, c in ((("off", 4), 9), (("stuck", 1), 1), (("pass", 1), 2), (("pass", 2), 3)):
            self.assert_table(ADDERS, 1, readings, {"p": way}, {("a", 0): 2, ("b", 0): 3, ("c", 0): c})
        self.assert_table(ADDERS, 1, [], {"p": ("stuck", 1), "q": None}, {("c", 0): 1, ("d", 0): 1})
        self.assert_table(ADDERS, 1, [("c", 0, 7), ("a", 0, 1)], {"p": ("off", 4)}, {
            ("a", 0): 1, ("b", 0): 2, ("c", 0): 7,
        })

    def test_holds(self):
        work = work_of("wire a number", "wire b number", "part h hold a b 4")
        for turns in range(1, 7):
            self.assert_table(work, turns, [], {"h": None}, {("b", 0): 4})
            self.assert_table(work, turns, [], {"h": ("off", 1)}, {("b", 0): 5})
            self.assert_table(work, turns, [], {"h": ("stuck", 1)}, {("b", turn): 1 for turn in range(turns)})
        told = self.reckoned(work, 3, [("b", 2, 8)], {"h": None})
        self.assertIn(("a", 1, 8, "h", 2, [0]), told[1])
        self.assert_table(work, 3, [("a", 1, 8)], {"h": None}, {("b", 0): 4, ("a", 1): 8, ("b", 2): 8})
        self.assert_table(work, 2, [("a", 1, 8)], {"h": None}, {("b", 0): 4, ("a", 1): 8})

    def test_a_counter_over_six_turns(self):
        work = work_of("wire n number", "wire one number", "wire m number", "part k const one 1", "part h hold m n 10",
                       "part p add n one m")
        for turns in range(1, 7):
            due = {}
            for turn in range(turns):
                due.update({("n", turn): 10 + turn, ("one", turn): 1, ("m", turn): 11 + turn})
            self.assert_table(work, turns, [], {"k": None, "h": None, "p": None}, due)

    def test_a_wire_at_more_than_one_pin(self):
        work = work_of("wire a number", "wire b number", "wire c number", "part p add a a c", "part q add a b a")
        self.assert_table(work, 1, [("a", 0, 2)], {"p": None}, {("a", 0): 2, ("c", 0): 4})
        self.assert_table(work, 1, [("c", 0, 4)], {"p": None}, {("c", 0): 4})
        self.assert_table(work, 1, [("a", 0, 2)], {"q": None}, {("a", 0): 2, ("b", 0): 0})

    def test_a_place_forced_again_is_one_row(self):
        work = work_of("wire a number", "wire b number", "wire c number", "part p copy a b", "part q copy a c")
        self.assert_table(work, 1, [("a", 0, 2), ("b", 0, 2)], {"p": None, "q": None}, {
            ("a", 0): 2, ("b", 0): 2, ("c", 0): 2,
        })
        told = self.reckoned(work, 1, [("b", 0, 2), ("a", 0, 2)], {"p": None})
        self.assertEqual([row[3] for row in told[1]], ["", ""])

    def test_shut_wires_may_be_read(self):
        work = work_of("wire a number shut", "wire b number", "part p copy a b")
        self.assert_table(work, 1, [("a", 0, 2)], {"p": None}, {("a", 0): 2, ("b", 0): 2})

    def test_pairs_beyond_sixty_figures_are_left_out(self):
        self.assert_table(ADDERS, 1, [("a", 0, GREATEST), ("b", 0, 1)], {"p": None}, {("a", 0): GREATEST, ("b", 0): 1})
        self.assert_table(ADDERS, 1, [("a", 0, GREATEST), ("b", 0, 1)], {"p": ("off", -1)}, {
            ("a", 0): GREATEST, ("b", 0): 1, ("c", 0): GREATEST,
        })
        self.assert_table(ADDERS, 1, [("c", 0, 10 ** 30)], {"q": None}, {("c", 0): 10 ** 30})
        self.assert_table(ADDERS, 1, [("a", 0, -1), ("c", 0, GREATEST)], {"p": None}, {("a", 0): -1, ("c", 0): GREATEST})
        self.assert_clash(ADDERS, 1, [("a", 0, GREATEST), ("b", 0, 1), ("c", 0, 0)], {"p": None})


class Clashes(Reckoned):
    def test_one_part(self):
        rows = self.assert_clash(ADDERS, 1, [("a", 0, 2), ("b", 0, 3), ("c", 0, 6)], {"p": None})
        self.assertEqual(len(rows), 4)
        self.assertEqual({row[3] for row in rows}, {"", "p"})

    def test_what_is_not_needed_is_left_out(self):
        readings = [("a", 0, 2), ("b", 0, 3), ("c", 0, 6), ("d", 0, 36), ("e", 0, 39), ("e", 1, 7), ("a", 1, 1)]
        rows = self.assert_clash(ADDERS, 2, readings, {"p": None})
        self.assertEqual({row[:2] for row in rows}, {("a", 0), ("b", 0), ("c", 0)})

    def test_several_parts(self):
        readings = [("a", 0, 2), ("b", 0, 3), ("e", 0, 29)]
        rows = self.assert_clash(ADDERS, 1, readings, {"p": None, "q": None, "r": None})
        self.assertEqual({row[3] for row in rows}, {"", "p", "q", "r"})
        for names in ("pq", "pr", "qr", "p", "q", "r", ""):
            self.assertEqual(reckon(ADDERS, 1, readings, dict.fromkeys(names))[0], "table")

    def test_a_value_against_what_it_comes_from(self):
        work = work_of("wire t truth", "part n not t t")
        for value in (0, 1):
            rows = self.assert_clash(work, 1, [("t", 0, value)], {"n": None})
            self.assertEqual(rows, [("t", 0, value, "", 0, []), ("t", 0, 1 - value, "n", 0, [0])])
        self.assert_table(work, 1, [("t", 0, 1)], {"n": ("flip", None)}, {("t", 0): 1})

    def test_a_pin_forced_to_two_values(self):
        work = work_of("wire t truth", "wire a number", "wire b number", "wire c number", "part p pick t a b c")
        self.assert_clash(work, 1, [("a", 0, 1), ("b", 0, 2), ("c", 0, 3)], {"p": None})
        self.assert_clash(work, 1, [("t", 0, 1), ("a", 0, 1), ("c", 0, 3)], {"p": None})

    def test_over_turns(self):
        work = work_of("wire a number", "wire b number", "part h hold a b 4")
        self.assert_clash(work, 1, [("b", 0, 5)], {"h": None})
        self.assert_clash(work, 3, [("a", 1, 5), ("b", 2, 6)], {"h": None})
        self.assertEqual(reckon(work, 3, [("a", 1, 5), ("b", 1, 6)], {"h": None})[0], "table")
        self.assertEqual(reckon(work, 3, [("b", 0, 5)], {"h": ("off", 1)})[0], "table")

    def test_ways(self):
        self.assert_clash(ADDERS, 1, [("c", 0, 6)], {"p": ("stuck", 5)})
        self.assert_clash(ADDERS, 1, [("a", 0, 1), ("c", 0, 6)], {"p": ("pass", 1)})
        self.assert_clash(ADDERS, 1, [("a", 0, 1), ("b", 0, 1), ("c", 0, 2)], {"p": ("off", 1)})
        self.assert_clash(ADDERS, 1, [("c", 0, 2)], {"p": ("stuck", 5), "q": None})


class Chance(Reckoned):
    def modes_for(self, rng, work, share):
        modes = {}
        for part in work[1]:
            if rng.random() < share:
                modes[part[0]] = rng.choice([None, None, None] + ways_for(part[1], part_kinds(work, part)))
        return modes

    def test_random_readings(self):
        rng = random.Random(11)
        seen = {"table": 0, "clash": 0}
        for number in range(500):
            work = random_work(rng, rng.randint(0, 12), wires=rng.randint(14, 30), rings=rng.random() < 0.5)
            turns = rng.randint(1, 6)
            modes = self.modes_for(rng, work, 0.8)
            share = rng.choice([0.05, 0.1, 0.2, 0.4])
            played = [[random_value(rng, wire[1], rng.random() < 0.1) for wire in work[0]] for turn in range(turns)]
            readings = random_readings(rng, work, turns, played, share, 0)
            told = self.reckoned(work, turns, readings, modes)
            values = values_reckoned(work, turns, readings, modes)
            seen[told[0]] += 1
            self.assertEqual(told[0], "clash" if values is None else "table")
            if values is not None:
                self.assertEqual(values_in(told), values)
        self.assertTrue(min(seen.values()) > 100, seen)

    def test_order_never_matters(self):
        rng = random.Random(12)
        for number in range(200):
            work = random_work(rng, rng.randint(1, 12))
            turns = rng.randint(1, 6)
            played = play_work(work, random_inputs(rng, work, turns), {})
            readings = random_readings(rng, work, turns, played, 0.2, 0.05)
            modes = self.modes_for(rng, work, 0.9)
            told = reckon(work, turns, readings, modes)
            for again in range(3):
                names = sorted(modes, key=lambda name: rng.random())
                shuffled = (work[0], sorted(work[1], key=lambda part: rng.random()))
                other = self.reckoned(shuffled, turns, rng.sample(readings, len(readings)), {n: modes[n] for n in names})
                self.assertEqual(other[0], told[0])
                if told[0] == "table":
                    self.assertEqual(values_in(other), values_in(told))

    def test_more_modes_and_readings_have_no_less(self):
        rng = random.Random(13)
        for number in range(200):
            work = random_work(rng, rng.randint(1, 12))
            turns = rng.randint(1, 6)
            played = play_work(work, random_inputs(rng, work, turns), {})
            readings = random_readings(rng, work, turns, played, 0.2, 0.03)
            modes = self.modes_for(rng, work, 0.9)
            told = reckon(work, turns, readings, modes)
            fewer = {name: modes[name] for name in modes if rng.random() < 0.7}
            less = self.reckoned(work, turns, [one for one in readings if rng.random() < 0.7], fewer)
            if told[0] == "table":
                self.assertEqual(less[0], "table")
                self.assertTrue(values_in(less).items() <= values_in(told).items())

    def test_what_was_played_never_clashes_and_is_found_again(self):
        rng = random.Random(14)
        for number in range(200):
            work = random_work(rng, rng.randint(1, 12))
            turns = rng.randint(1, 6)
            modes = self.modes_for(rng, work, 1)
            inputs = random_inputs(rng, work, turns)
            played = play_work(work, inputs, modes)
            true = {(wire[0], turn): played[turn][at] for at, wire in enumerate(work[0]) for turn in range(turns)}
            readings = random_readings(rng, work, turns, played, 0.3, 0)
            told = self.reckoned(work, turns, readings, modes)
            self.assertEqual(told[0], "table")
            self.assertTrue(values_in(told).items() <= true.items())
            # With all free wires read, everything follows.
            free = [(wire, turn, true[(wire, turn)]) for wire in free_of(work) for turn in range(turns)]
            self.assertEqual(values_in(self.reckoned(work, turns, free, modes)), true)


if __name__ == "__main__":
    unittest.main()
