import random
import unittest

from faultwhy import errors
from faultwhy.answering import answer, write_answer
from faultwhy.asking import next_reading
from faultwhy.explaining import all_reasons, cleared_parts, sure_parts
from faultwhy.naming import named_ways
from faultwhy.showing import write_work
from tests.helper import GREATEST, asked, random_value, random_work, text_of

ROWS = ["wire a number", "wire b number", "wire c number", "wire t truth", "wire x number shut",
        "part p copy a b", "way p off 1", "way p stuck 0", "part q copy b c", "way q off 1", "part r copy c x"]
WORK = text_of(*ROWS)


class Answers(unittest.TestCase):
    def answered(self, *rows, work=WORK):
        return asked(self, answer, work, text_of(*rows))

    def test_no_readings(self):
        self.assertEqual(self.answered("turns 1"), ([], [], [[]], [[[]]], [], ["p", "q", "r"], None))
        self.assertEqual(self.answered("turns 6"), ([], [], [[]], [[[]]], [], ["p", "q", "r"], None))

    def test_the_empty_work(self):
        self.assertEqual(self.answered("turns 3", work=""), ([], [], [[]], [[[]]], [], [], None))

    def test_readings(self):
        told = self.answered("turns 1", "put c 0 3", "put a 0 2")
        self.assertEqual(told, (
            [("a", 0, 2), ("c", 0, 3)], [["p", "q"]], [["p"], ["q"]], [[[0]], [[0]]], [], ["r"], ("b", 0, 1),
        ))
        self.assertIs(type(told), tuple)
        told = self.answered("turns 1", "put c 0 3", "put a 0 2", "put b 0 3")
        self.assertEqual(told, ([("a", 0, 2), ("b", 0, 3), ("c", 0, 3)], [["p"]], [["p"]], [[[0]]], ["p"], ["q", "r"], None))
        told = self.answered("turns 1", "put c 0 3", "put a 0 2", "put b 0 5")
        self.assertEqual(told[1:], ([["p"], ["q"]], [["p", "q"]], [[]], ["p", "q"], ["r"], None))

    def test_readings_taken_back(self):
        told = self.answered("turns 2", "put a 0 2", "put b 0 3", "put b 1 -7", "back b 0")
        self.assertEqual(told, ([("a", 0, 2), ("b", 1, -7)], [], [[]], [[[]]], [], ["p", "q", "r"], None))
        told = self.answered("turns 2", "put a 0 2", "back a 0", "put a 0 5")
        self.assertEqual(told[0], [("a", 0, 5)])

    def test_too_many_ways(self):
        rows = []
        for number in range(7):
            rows += [f"wire a{number} number", f"wire b{number} number", f"part p{number} copy a{number} b{number}",
                     f"way p{number} off 1", f"way p{number} stuck 1"]
        deeds = ["turns 1"] + [f"put {letter}{number} 0 {value}" for number in range(7) for letter, value in (("a", 0), ("b", 1))]
        told = self.answered(*deeds, work=text_of(*rows))
        self.assertEqual(told[2], [[f"p{number}" for number in range(7)]])
        self.assertEqual(told[3], [None])
        self.assertIn("\nfit many\nsure", write_answer(told))
        told = self.answered(*deeds[:-2], work=text_of(*rows))
        self.assertEqual(len(told[3][0]), 64)

    def test_blanks_and_empty_rows(self):
        due = self.answered("turns 2", "put a 1 2", "back a 1", "put b 0 4")
        self.assertEqual(self.answered("", "  ", " turns   2 ", "", "put  a 1   2", "   back a 1", " ", "put b 0 4  ", ""), due)

    def test_numbers_of_sixty_figures(self):
        told = self.answered("turns 1", f"put a 0 {GREATEST}", f"put b 0 -{GREATEST}")
        self.assertEqual(told[0], [("a", 0, GREATEST), ("b", 0, -GREATEST)])

    def test_the_seven_parts_for_random_works(self):
        rng = random.Random(81)
        for number in range(60):
            work = random_work(rng, rng.randint(1, 6), wires=rng.randint(10, 14), ways=rng.randint(0, 3), shut=0.2)
            turns = rng.randint(1, 3)
            deeds, readings = [], []
            for name, kind, shut in work[0]:
                for turn in range(turns):
                    if not shut and rng.random() < 0.4:
                        readings.append((name, turn, random_value(rng, kind)))
            for name, turn, value in rng.sample(readings, len(readings)):
                deeds.append(f"put {name} {turn} {value}")
            told = self.answered(f"turns {turns}", *deeds, work=write_work(work))
            clashes, explanations = all_reasons(work, turns, readings)
            fits = []
            for one in explanations:
                try:
                    fits.append(named_ways(work, turns, readings, one))
                except errors.TooMany:
                    fits.append(None)
            self.assertEqual(told, (
                readings, clashes, explanations, fits, sure_parts(work, explanations), cleared_parts(work, explanations),
                next_reading(work, turns, readings, explanations),
            ))


class Refusals(unittest.TestCase):
    def assert_refused(self, error, rows, row=None, work=WORK):
        with self.subTest(error=error.__name__, rows=rows):
            with self.assertRaises(errors.FaultError) as taken:
                answer(work, text_of(*rows))
            self.assertIs(type(taken.exception), error)
            if row is not None:
                self.assertEqual(taken.exception.row, row)

    def test_the_works_refusals_go_ahead_of_all(self):
        for deeds in ([], ["turns 9"], ["nonsense"], ["turns 1"], ["turns 1", "put z 0 1"]):
            self.assert_refused(errors.Unread, deeds, 1, "wire a number\nwire")
            self.assert_refused(errors.Twice, deeds, 1, "wire a number\nwire a number")
            self.assert_refused(errors.NoName, deeds, 0, "part p const a 1")
            self.assert_refused(errors.Mismatch, deeds, 1, "wire a truth\npart p const a 2")
            self.assert_refused(errors.Taken, deeds, 2, "wire a truth\npart p const a 1\npart q const a 1")
            self.assert_refused(errors.TooBig, deeds, 40, "\n".join(f"wire w{number} truth" for number in range(41)))

    def test_a_text_without_words(self):
        for rows in ([], [""], ["", ""], ["  ", "", " "]):
            self.assert_refused(errors.Unread, rows, 0)

    def test_a_first_row_that_is_not_turns(self):
        for row in ("put a 0 1", "back a 0", "turn 1", "turns", "turns x", "turns 1 2", "turns 01", "turns -0", "turns +1",
                    "Turns 1", "1", "turns 1.", "turns turns", "turns " + "1" * 61, "wire a number"):
            self.assert_refused(errors.Unread, [row], 0)
            self.assert_refused(errors.Unread, ["", " ", row, "turns 1"], 2)

    def test_turns_twice(self):
        self.assert_refused(errors.Unread, ["turns 1", "turns 1"], 1)
        self.assert_refused(errors.Unread, ["turns 1", "put a 0 1", "", "turns 2"], 3)

    def test_bad_turns(self):
        for number in ("0", "7", "-1", "100", "9" * 60, "-" + "9" * 60):
            self.assert_refused(errors.BadTurns, [f"turns {number}"])
            self.assert_refused(errors.BadTurns, ["", f"turns {number}", "nonsense"])

    def test_rows_of_another_form(self):
        for row in ("put", "put a", "put a 0", "put a 0 1 2", "put a 0 x", "put a x 1", "put a 00 1", "put a 0 01",
                    "put a -0 1", "put a 0 -0", "put a 0 +1", "put 1 0 1", "put A 0 1", "put abcdefghijklm 0 1", "put a- 0 1",
                    "put a 0 1.0", "put a 0 " + "1" * 61, "put a " + "1" * 61 + " 1", "back", "back a", "back a 0 1",
                    "back a x", "back a 00", "back A 0", "back 0 a", "Put a 0 1", "putt a 0 1", "take a 0", "a 0 1", "x",
                    "next", "read a 0 1", "put a 0 1 shut", "back a -"):
            self.assert_refused(errors.Unread, ["turns 2", row], 1)
            self.assert_refused(errors.Unread, ["turns 2", "", "put a 0 1", row, "put z 0 1"], 3)

    def test_what_the_log_refuses(self):
        for rows, error in (
            (["put z 0 1"], errors.NoPlace), (["put p 0 1"], errors.NoPlace), (["put a 2 1"], errors.NoPlace),
            (["put a -1 1"], errors.NoPlace), (["put a " + "9" * 60 + " 1"], errors.NoPlace), (["back z 0"], errors.NoPlace),
            (["back a 2"], errors.NoPlace), (["back a -1"], errors.NoPlace), (["put x 0 1"], errors.Shut),
            (["put t 0 2"], errors.BadValue), (["put t 0 -1"], errors.BadValue),
            (["put a 0 1", "put a 0 1"], errors.AlreadyRead), (["put a 0 1", "put a 0 2"], errors.AlreadyRead),
            (["back a 0"], errors.NotRead), (["put a 0 1", "back a 1"], errors.NotRead), (["back x 0"], errors.NotRead),
            (["put a 0 1", "back a 0", "back a 0"], errors.NotRead), (["put turns 0 1"], errors.NoPlace),
        ):
            self.assert_refused(error, ["turns 2"] + rows)
            # Rows are read and done one by one, so what stands behind does not matter.
            self.assert_refused(error, ["turns 2"] + rows + ["nonsense"])

    def test_an_unread_row_ahead_of_what_the_log_refuses(self):
        self.assert_refused(errors.Unread, ["turns 2", "nonsense", "put z 0 1"], 1)

    def test_any_work_of_the_right_form_takes_its_own_words_for_names(self):
        told = answer("wire put number\nwire back number\npart turns copy put back", "turns 1\nput put 0 3\nput back 0 4\nback put 0")
        self.assertEqual(told[0], [("back", 0, 4)])


class Writing(unittest.TestCase):
    def assert_written(self, told, *rows):
        self.assertEqual(asked(self, write_answer, told), text_of(*rows))

    def test_nothing_at_all(self):
        self.assert_written(([], [], [], [], [], [], None), "sure", "cleared", "next none")

    def test_the_empty_explanation(self):
        self.assert_written(([], [], [[]], [[[]]], [], ["p"], None), "blame", "fit", "sure", "cleared p", "next none")
        self.assert_written(([], [], [[]], [[]], [], [], None), "blame", "sure", "cleared", "next none")

    def test_each_kind_of_row(self):
        self.assert_written(
            ([("a", 0, 5), ("b", 1, -7)], [["p"], ["q", "r"]], [["p", "q"], ["p", "r"], ["s"], ["u"]],
             [[[0, 1], [2, 0]], None, [], [[1]]], ["p"], ["v", "w"], ("c", 3, 2)),
            "read a 0 5", "read b 1 -7", "clash p", "clash q r", "blame p q", "fit 0 1", "fit 2 0", "blame p r", "fit many",
            "blame s", "blame u", "fit 1", "sure p", "cleared v w", "next c 3 2",
        )

    def test_tuples_that_no_answer_would_be(self):
        self.assert_written(
            ([("none", -1, GREATEST), ("none", -1, -GREATEST)], [[], ["many"]], [["none"], [], []], [None, [[-5], [], [7, 7]], None],
             ["sure", "sure"], ["cleared"], ("none", -3, 0)),
            f"read none -1 {GREATEST}", f"read none -1 -{GREATEST}", "clash", "clash many", "blame none", "fit many", "blame",
            "fit -5", "fit", "fit 7 7", "blame", "fit many", "sure sure sure", "cleared cleared", "next none -3 0",
        )

    def test_an_answer_written(self):
        told = answer(WORK, "turns 1\nput a 0 2\nput c 0 3")
        self.assert_written(
            told, "read a 0 2", "read c 0 3", "clash p q", "blame p", "fit 0", "blame q", "fit 0", "sure", "cleared r", "next b 0 1",
        )


if __name__ == "__main__":
    unittest.main()
