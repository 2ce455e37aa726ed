import copy
import random
import unittest

from faultwhy import errors
from faultwhy.asking import next_reading
from faultwhy.explaining import all_reasons
from faultwhy.logs import Log
from tests.helper import GREATEST, asked, assert_own, random_value, random_work, spoil, work_of

ROWS = ["wire b number", "wire a number", "wire t truth", "wire x number shut", "wire y truth shut", "part p copy a b",
        "part q copy b x"]


def told_by(log):
    return (log.standing(), log.clashes(), log.explanations(), log.next_place())


def told_at_once(work, turns, readings):
    # What the readings that stand would say if they were told at once.
    places = [(wire[0], turn) for wire in work[0] for turn in range(turns)]
    readings = sorted(readings, key=lambda reading: places.index(reading[:2]))
    clashes, explanations = all_reasons(work, turns, readings)
    return (readings, clashes, explanations, next_reading(work, turns, readings, explanations))


class Logs(unittest.TestCase):
    def setUp(self):
        self.work = work_of(*ROWS)
        self.log = Log(self.work, 2)

    def assert_refused(self, error, deed, *handed):
        before = told_by(self.log)
        with self.subTest(error=error.__name__, handed=handed):
            with self.assertRaises(errors.FaultError) as taken:
                deed(*handed)
            self.assertIs(type(taken.exception), error)
            self.assertEqual(told_by(self.log), before)


class Turns(Logs):
    def test_turns(self):
        for turns in range(1, 7):
            log = Log(self.work, turns)
            self.assertIsNone(log.put("a", turns - 1, 5))
            with self.assertRaises(errors.NoPlace):
                log.put("a", turns, 5)
        for turns in (0, 7, 8, 100, -1, -6, 10 ** 70, -(10 ** 70)):
            with self.subTest(turns=turns):
                with self.assertRaises(errors.BadTurns):
                    Log(self.work, turns)

    def test_an_empty_work(self):
        self.assertEqual(told_by(Log(([], []), 6)), ([], [], [[]], None))


class Putting(Logs):
    def test_good_ones(self):
        for wire, turn, value in (("a", 0, 5), ("a", 1, GREATEST), ("b", 0, -GREATEST), ("b", 1, 0), ("t", 0, 0),
                                  ("t", 1, 1)):
            self.assertIsNone(self.log.put(wire, turn, value))
        self.assertEqual(self.log.standing(), [
            ("b", 0, -GREATEST), ("b", 1, 0), ("a", 0, 5), ("a", 1, GREATEST), ("t", 0, 0), ("t", 1, 1),
        ])

    def test_each_refusal(self):
        for wire in ("z", "", "A", "aa", " a", "a b", "p", "1", "a\n"):
            self.assert_refused(errors.NoPlace, self.log.put, wire, 0, 1)
        for turn in (-1, -2, 2, 3, 6, 10 ** 70, -(10 ** 70)):
            self.assert_refused(errors.NoPlace, self.log.put, "a", turn, 1)
        self.assert_refused(errors.Shut, self.log.put, "x", 0, 1)
        self.assert_refused(errors.Shut, self.log.put, "y", 1, 1)
        for value in (2, -1, 10, GREATEST, 10 ** 60):
            self.assert_refused(errors.BadValue, self.log.put, "t", 0, value)
        for value in (10 ** 60, -(10 ** 60), 10 ** 61, 10 ** 500, -(10 ** 500)):
            self.assert_refused(errors.BadValue, self.log.put, "a", 0, value)
        self.log.put("a", 0, 4)
        for value in (4, 5, 0):
            self.assert_refused(errors.AlreadyRead, self.log.put, "a", 0, value)

    def test_two_at_once(self):
        self.assert_refused(errors.NoPlace, self.log.put, "x", 2, 1)
        self.assert_refused(errors.NoPlace, self.log.put, "x", -1, 1)
        self.assert_refused(errors.NoPlace, self.log.put, "t", 2, 7)
        self.assert_refused(errors.NoPlace, self.log.put, "z", 0, 10 ** 60)
        self.assert_refused(errors.NoPlace, self.log.put, "z", 9, 1)
        self.assert_refused(errors.Shut, self.log.put, "y", 0, 2)
        self.assert_refused(errors.Shut, self.log.put, "x", 0, 10 ** 60)
        self.log.put("t", 0, 1)
        self.log.put("a", 0, 1)
        self.assert_refused(errors.BadValue, self.log.put, "t", 0, 2)
        self.assert_refused(errors.BadValue, self.log.put, "a", 0, 10 ** 60)

    def test_what_was_refused_may_be_good_later(self):
        self.log.put("a", 0, 1)
        self.assert_refused(errors.AlreadyRead, self.log.put, "a", 0, 2)
        self.log.take_back("a", 0)
        self.log.put("a", 0, 2)
        self.assertEqual(self.log.standing(), [("a", 0, 2)])
        self.assert_refused(errors.BadValue, self.log.put, "t", 1, 2)
        self.log.put("t", 1, 1)
        self.assertEqual(self.log.standing(), [("a", 0, 2), ("t", 1, 1)])


class TakingBack(Logs):
    def test_good_ones(self):
        self.log.put("a", 0, 1)
        self.log.put("a", 1, 2)
        self.assertIsNone(self.log.take_back("a", 0))
        self.assertEqual(self.log.standing(), [("a", 1, 2)])
        self.log.take_back("a", 1)
        self.assertEqual(self.log.standing(), [])

    def test_each_refusal(self):
        for wire, turn in (("z", 0), ("", 0), ("a", 2), ("a", -1), ("p", 0), ("x", 2), ("y", -1), ("z", 9), ("a", 10 ** 70)):
            self.assert_refused(errors.NoPlace, self.log.take_back, wire, turn)
        for wire, turn in (("a", 0), ("t", 1), ("x", 0), ("y", 1)):
            self.assert_refused(errors.NotRead, self.log.take_back, wire, turn)
        self.log.put("a", 0, 1)
        self.assert_refused(errors.NotRead, self.log.take_back, "a", 1)
        self.assert_refused(errors.NotRead, self.log.take_back, "b", 0)
        self.log.take_back("a", 0)
        self.assert_refused(errors.NotRead, self.log.take_back, "a", 0)


class Telling(Logs):
    def test_a_clash_comes_and_goes(self):
        self.assertEqual(told_by(self.log), ([], [], [[]], None))
        self.log.put("a", 0, 1)
        self.log.put("b", 0, 2)
        self.assertEqual(told_by(self.log), ([("b", 0, 2), ("a", 0, 1)], [["p"]], [["p"]], None))
        self.log.take_back("b", 0)
        self.assertEqual(told_by(self.log), ([("a", 0, 1)], [], [[]], None))

    def test_the_next_reading(self):
        work = work_of("wire a number", "wire b number", "wire c number", "part p copy a b", "part q copy b c")
        log = Log(work, 1)
        log.put("c", 0, 1)
        log.put("a", 0, 2)
        self.assertEqual(log.clashes(), [["p", "q"]])
        self.assertEqual(log.explanations(), [["p"], ["q"]])
        self.assertEqual(log.next_place(), ("b", 0, 1))
        log.put("b", 0, 1)
        self.assertEqual(told_by(log), ([("a", 0, 2), ("b", 0, 1), ("c", 0, 1)], [["p"]], [["p"]], None))

    def test_what_is_told_is_the_askers_own(self):
        self.log.put("a", 0, 1)
        self.log.put("b", 0, 2)
        before = copy.deepcopy(told_by(self.log))
        told = told_by(self.log)
        again = told_by(self.log)
        assert_own(self, (told, again), self.work)
        spoil(told)
        self.assertEqual(told_by(self.log), before)
        self.assertEqual(again, before)
        self.log.take_back("a", 0)
        self.log.put("a", 1, 7)
        self.assertEqual(again, before)

    def test_the_work_is_kept_as_it_was(self):
        for spoiler in (
            spoil, lambda work: work[0].clear(), lambda work: work[1].clear(), lambda work: work[1][0][2].reverse(),
            lambda work: work[0].reverse(), lambda work: work[1].reverse(), lambda work: work[0].append(("z", "truth", False)),
            lambda work: work[0].__setitem__(0, ("b", "truth", True)), lambda work: work[1][0][4].append(("off", 1)),
        ):
            work = work_of(*ROWS)
            log = Log(work, 2)
            log.put("b", 0, 3)
            spoiler(work)
            log.put("a", 0, 1)
            self.assertEqual(told_by(log), ([("b", 0, 3), ("a", 0, 1)], [["p"]], [["p"]], None))
            with self.assertRaises(errors.NoPlace):
                log.put("z", 0, 1)

    def test_the_work_handed_in_is_not_changed(self):
        before = copy.deepcopy(self.work)
        self.log.put("a", 0, 1)
        self.log.put("b", 0, 2)
        told_by(self.log)
        self.assertEqual(self.work, before)

    def test_logs_keep_apart(self):
        other = Log(self.work, 2)
        self.log.put("a", 0, 1)
        other.put("a", 0, 2)
        other.put("b", 0, 3)
        self.assertEqual(self.log.standing(), [("a", 0, 1)])
        self.assertEqual((self.log.clashes(), other.clashes()), ([], [["p"]]))

    def test_any_row_of_deeds(self):
        rng = random.Random(71)
        for number in range(60):
            work = random_work(rng, rng.randint(1, 7), wires=rng.randint(10, 14), shut=0.2)
            turns = rng.randint(1, 4)
            log, stand = Log(work, turns), {}
            for deed in range(30):
                name, kind, shut = rng.choice(work[0])
                place = (name, rng.randrange(turns))
                if rng.random() < 0.3:
                    if place in stand:
                        stand.pop(place)
                        log.take_back(*place)
                    else:
                        with self.assertRaises(errors.NotRead):
                            log.take_back(*place)
                elif shut:
                    with self.assertRaises(errors.Shut):
                        log.put(*place, 1)
                elif place in stand:
                    with self.assertRaises(errors.AlreadyRead):
                        log.put(*place, random_value(rng, kind))
                else:
                    stand[place] = random_value(rng, kind)
                    log.put(*place, stand[place])
                readings = [(wire, turn, stand[(wire, turn)]) for wire, turn in stand]
                if rng.random() < 0.4:
                    self.assertEqual(told_by(log), told_at_once(work, turns, readings))
            self.assertEqual(told_by(log), told_at_once(work, turns, readings))

    def test_deeds_in_any_order(self):
        rng = random.Random(72)
        readings = [("a", 0, 1), ("b", 0, 2), ("a", 1, 5), ("b", 1, 5), ("t", 0, 1)]
        due = told_at_once(self.work, 2, readings)
        for number in range(20):
            log = Log(self.work, 2)
            for reading in rng.sample(readings, len(readings)):
                log.put(*reading)
            self.assertEqual(told_by(log), due)

    def test_the_kinds_of_what_is_told(self):
        self.log.put("a", 0, 1)
        asked(self, lambda: self.log.standing())
        asked(self, lambda: self.log.clashes())
        asked(self, lambda: self.log.explanations())
        self.assertEqual([type(one) for one in told_by(self.log)[:3]], [list, list, list])
        self.assertIs(type(self.log.standing()[0]), tuple)


if __name__ == "__main__":
    unittest.main()
