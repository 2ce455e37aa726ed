import unittest

from faultwhy import errors

ROW_CLASSES = ("Unread", "Twice", "NoName", "Mismatch", "Taken", "TooBig")
FIELD_CLASSES = ("Ring", "TooGreat")
BARE_CLASSES = ("TooMany", "BadTurns", "NoPlace", "Shut", "BadValue", "AlreadyRead", "NotRead")
REFUSALS = ROW_CLASSES + FIELD_CLASSES + BARE_CLASSES


def made(name):
    cls = getattr(errors, name)
    if name in ROW_CLASSES:
        return cls(7)
    if name == "Ring":
        return cls(["p", "q"])
    if name == "TooGreat":
        return cls("p", 2)
    return cls()


class Standing(unittest.TestCase):
    def test_the_base_stands_under_value_error(self):
        self.assertTrue(issubclass(errors.FaultError, ValueError))

    def test_each_refusal_stands_under_the_base(self):
        for name in REFUSALS:
            with self.subTest(name):
                self.assertTrue(issubclass(getattr(errors, name), errors.FaultError))
                self.assertIsNot(getattr(errors, name), errors.FaultError)

    def test_no_refusal_stands_under_another(self):
        for lower in REFUSALS:
            for upper in REFUSALS:
                if lower != upper:
                    with self.subTest(lower=lower, upper=upper):
                        self.assertFalse(issubclass(getattr(errors, lower), getattr(errors, upper)))

    def test_the_base_stands_under_no_refusal(self):
        for name in REFUSALS:
            with self.subTest(name):
                self.assertFalse(issubclass(errors.FaultError, getattr(errors, name)))

    def test_each_refusal_is_raised_and_taken_by_its_own_name_and_the_base(self):
        for name in REFUSALS:
            for taker in (getattr(errors, name), errors.FaultError, ValueError):
                with self.subTest(name=name, taker=taker):
                    with self.assertRaises(taker):
                        raise made(name)


class Fields(unittest.TestCase):
    def test_row(self):
        for name in ROW_CLASSES:
            for row in (0, 1, 199):
                with self.subTest(name=name, row=row):
                    self.assertEqual(getattr(errors, name)(row).row, row)

    def test_row_is_there_when_the_error_is_taken(self):
        for name in ROW_CLASSES:
            with self.subTest(name):
                with self.assertRaises(errors.FaultError) as taken:
                    raise getattr(errors, name)(5)
                self.assertEqual(taken.exception.row, 5)

    def test_each_object_has_a_row_of_its_own(self):
        for name in ROW_CLASSES:
            with self.subTest(name):
                first, second = getattr(errors, name)(1), getattr(errors, name)(2)
                self.assertEqual((first.row, second.row), (1, 2))

    def test_ring_names(self):
        for names in (["p"], ["p", "q"], ["q", "p", "a1"]):
            with self.subTest(names):
                told = errors.Ring(names).names
                self.assertEqual(told, names)
                self.assertIsInstance(told, list)

    def test_ring_keeps_its_names_when_the_handed_list_changes(self):
        names = ["p", "q"]
        ring = errors.Ring(names)
        names.append("r")
        self.assertEqual(ring.names, ["p", "q"])

    def test_a_change_of_the_told_names_leaves_the_handed_list(self):
        names = ["p", "q"]
        errors.Ring(names).names.append("r")
        self.assertEqual(names, ["p", "q"])

    def test_too_great_part_and_turn(self):
        for part, turn in (("p", 0), ("adder", 5)):
            with self.subTest(part=part, turn=turn):
                error = errors.TooGreat(part, turn)
                self.assertEqual((error.part, error.turn), (part, turn))


if __name__ == "__main__":
    unittest.main()
