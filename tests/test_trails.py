import unittest

from faultwhy.pieces import Piece, mode_pieces
from faultwhy.trails import clash_rows, least_origin, table_rows
from tests.helper import assert_own, check_reckoning, work_of

A, B, C, D, E, F = [(wire, 0) for wire in "abcdef"]


def piece_of(work, name, at=0, way=None):
    part = [part for part in work[1] if part[0] == name][0]
    return mode_pieces(part, at + 1, way)[at]


class Trails(unittest.TestCase):
    def setUp(self):
        self.work = work_of(
            "wire a number", "wire b number", "wire c number", "wire d number", "wire e number", "wire f number",
            "part p add a b c", "part q times a b d", "part k const e 1", "part r add d e f",
        )
        self.p, self.q, self.k, self.r = [piece_of(self.work, name) for name in "pqkr"]

    def test_a_table(self):
        steps = [(A, 2, None), (B, 3, None), (C, 5, self.p), (D, 6, self.q)]
        rows = table_rows(steps)
        self.assertEqual(rows, [
            ("a", 0, 2, "", 0, []), ("b", 0, 3, "", 0, []), ("c", 0, 5, "p", 0, [0, 1]), ("d", 0, 6, "q", 0, [0, 1]),
        ])
        assert_own(self, rows, steps)

    def test_the_empty_table(self):
        self.assertEqual(table_rows([]), [])

    def test_only_rows_ahead_are_gone_back_to(self):
        # c stands behind b here, so that b comes from a and c, or c from a and b.
        self.assertEqual(table_rows([(A, 2, None), (C, 5, None), (B, 3, self.p)])[2], ("b", 0, 3, "p", 0, [0, 1]))
        self.assertEqual(table_rows([(B, 3, None), (A, 2, None), (C, 5, self.p)])[2], ("c", 0, 5, "p", 0, [0, 1]))

    def test_a_row_behind_is_not_gone_back_to_though_it_would_do(self):
        pick = Piece("p", 0, None, ("pick", None, [("t", 0), A, B, C]))
        other = Piece("q", 0, None, ("copy", None, [C, B]))
        rows = table_rows([(("t", 0), 1, None), (A, 5, None), (C, 5, pick), (B, 5, other)])
        self.assertEqual([row[5] for row in rows], [[], [], [0, 1], [2]])

    def test_places_without_a_value(self):
        self.assertEqual(table_rows([(A, 0, None), (D, 0, self.q)])[1], ("d", 0, 0, "q", 0, [0]))

    def test_what_is_not_needed_is_left_out(self):
        rows = table_rows([(A, 0, None), (B, 3, None), (D, 0, self.q)])
        self.assertEqual(rows[2], ("d", 0, 0, "q", 0, [0]))
        rows = table_rows([(A, 3, None), (B, 0, None), (D, 0, self.q)])
        self.assertEqual(rows[2], ("d", 0, 0, "q", 0, [1]))
        rows = table_rows([(A, 0, None), (B, 0, None), (D, 0, self.q)])
        self.assertIn(rows[2][5], ([0], [1]))

    def test_least_origin(self):
        self.assertEqual(least_origin((C, 5, self.p), {A: 2, B: 3}), [A, B])
        self.assertEqual(least_origin((C, 5, self.p), {A: 2, B: 3, C: 9}), [A, B])
        self.assertEqual(least_origin((E, 1, self.k), {E: 3}), [])
        known = {A: 0, B: 4, D: 1}
        self.assertEqual(least_origin((D, 0, self.q), known), [A])
        self.assertEqual(known, {A: 0, B: 4, D: 1})

    def test_the_rows_of_a_clash(self):
        steps = [(A, 2, None), (("a", 1), 9, None), (C, 7, None), (B, 5, self.p), (E, 1, self.k), (F, 9, None),
                 (D, 8, self.r)]
        rows = clash_rows(steps, (D, 10, self.q))
        self.assertEqual(rows, [
            ("a", 0, 2, "", 0, []), ("c", 0, 7, "", 0, []), ("b", 0, 5, "p", 0, [0, 1]), ("e", 0, 1, "k", 0, []),
            ("f", 0, 9, "", 0, []), ("d", 0, 8, "r", 0, [3, 4]), ("d", 0, 10, "q", 0, [0, 2]),
        ])
        readings = [("a", 0, 2), ("a", 1, 9), ("c", 0, 7), ("f", 0, 9)]
        check_reckoning(self, self.work, 2, readings, dict.fromkeys("pqkr"), ("clash", rows))

    def test_a_clash_with_what_it_comes_from(self):
        work = work_of("wire t truth", "part n not t t")
        piece = piece_of(work, "n")
        rows = clash_rows([(("t", 0), 1, None)], (("t", 0), 0, piece))
        self.assertEqual(rows, [("t", 0, 1, "", 0, []), ("t", 0, 0, "n", 0, [0])])

    def test_a_clash_without_readings(self):
        first, second = Piece("k", 0, None, ("const", 1, [A])), Piece("c", 0, None, ("const", 2, [B]))
        rows = clash_rows([(A, 1, first), (B, 2, second)], (B, 1, Piece("p", 0, None, ("copy", None, [A, B]))))
        self.assertEqual(rows, [("a", 0, 1, "k", 0, []), ("b", 0, 2, "c", 0, []), ("b", 0, 1, "p", 0, [0])])

    def test_turns(self):
        work = work_of("wire a number", "wire b number", "part h hold a b 4")
        first, second = piece_of(work, "h", 0), piece_of(work, "h", 1)
        rows = table_rows([(("b", 1), 3, None), (("b", 0), 4, first), (("a", 0), 3, second)])
        self.assertEqual(rows, [("b", 1, 3, "", 1, []), ("b", 0, 4, "h", 0, []), ("a", 0, 3, "h", 1, [0])])

    def test_a_way_is_kept_to(self):
        off = piece_of(self.work, "p", 0, ("off", 10))
        self.assertEqual(table_rows([(A, 2, None), (B, 3, None), (C, 15, off)])[2], ("c", 0, 15, "p", 0, [0, 1]))


if __name__ == "__main__":
    unittest.main()
