import random
import unittest

from faultwhy.pieces import Piece, mode_pieces, pieces_of
from tests.helper import PINS, asked, random_work, ways_for


class Pieces(unittest.TestCase):
    def test_each_sort_but_hold(self):
        for sort in PINS:
            if sort != "hold":
                pins = [f"w{pin}" for pin in range(len(PINS[sort]))]
                number = 4 if sort == "const" else None
                for turns in range(1, 7):
                    with self.subTest(sort=sort, turns=turns):
                        told = asked(self, pieces_of, ("p", sort, pins, number, []), turns)
                        self.assertEqual(told, [
                            (sort, number, [(wire, turn) for wire in pins]) for turn in range(turns)
                        ])

    def test_hold(self):
        part = ("h", "hold", ["a", "b"], 7, [("off", 1)])
        due = [("const", 7, [("b", 0)])]
        for turns in range(1, 7):
            self.assertEqual(asked(self, pieces_of, part, turns), due)
            due.append(("copy", None, [("a", turns - 1), ("b", turns)]))

    def test_a_hold_of_nought(self):
        self.assertEqual(pieces_of(("h", "hold", ["a", "b"], 0, []), 1), [("const", 0, [("b", 0)])])

    def test_a_hold_of_its_own_out(self):
        self.assertEqual(pieces_of(("h", "hold", ["a", "a"], 1, []), 3), [
            ("const", 1, [("a", 0)]), ("copy", None, [("a", 0), ("a", 1)]), ("copy", None, [("a", 1), ("a", 2)]),
        ])

    def test_one_wire_at_several_pins(self):
        self.assertEqual(pieces_of(("p", "pick", ["t", "a", "a", "t"], None, []), 2), [
            ("pick", None, [("t", 0), ("a", 0), ("a", 0), ("t", 0)]),
            ("pick", None, [("t", 1), ("a", 1), ("a", 1), ("t", 1)]),
        ])

    def test_ways_play_no_part(self):
        for sort, pins, kinds in (("add", ["a", "b", "c"], ["number"] * 3), ("hold", ["s", "t"], ["truth"] * 2)):
            number = 1 if sort == "hold" else None
            bare = pieces_of(("p", sort, pins, number, []), 4)
            for way in ways_for(sort, kinds):
                self.assertEqual(pieces_of(("p", sort, pins, number, [way]), 4), bare)

    def test_kinds_of_what_is_told(self):
        rng = random.Random(2)
        for part in random_work(rng, 12)[1]:
            for piece in pieces_of(part, 6):
                self.assertIs(type(piece), tuple)
                self.assertIs(type(piece[2]), list)
                self.assertTrue(all(type(place) is tuple for place in piece[2]))
                self.assertEqual(piece[1] is None, piece[0] != "const")


class ForcedFrom(unittest.TestCase):
    def test_places_with_one_value_at_each_of_their_pins(self):
        piece = Piece("p", 2, None, ("add", None, [("a", 2), ("a", 2), ("c", 2)]))
        self.assertEqual(piece.forced_from({("a", 2): 3, ("a", 1): 5}), [(("c", 2), 6)])
        self.assertEqual(piece.forced_from({("a", 2): 3, ("c", 2): 4}), [(("a", 2), 1), (("a", 2), 1), (("c", 2), 6)])
        self.assertEqual(piece.forced_from({}), [])

    def test_the_way_is_kept_to(self):
        pieces = mode_pieces(("h", "hold", ["a", "b"], 7, []), 3, ("off", 10))
        self.assertEqual([(piece.part, piece.at, piece.way) for piece in pieces],
                         [("h", 0, ("off", 10)), ("h", 1, ("off", 10)), ("h", 2, ("off", 10))])
        self.assertEqual(pieces[0].forced_from({}), [(("b", 0), 17)])
        self.assertEqual(pieces[2].forced_from({("a", 1): 1}), [(("b", 2), 11)])
        self.assertEqual(pieces[2].forced_from({("b", 2): 1}), [(("a", 1), -9)])
        self.assertEqual(pieces[2].forced_from({("a", 2): 1, ("b", 1): 3}), [])


if __name__ == "__main__":
    unittest.main()
