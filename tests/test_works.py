import random
import unittest

from faultwhy import errors
from faultwhy.works import copy_work, read_work
from tests.helper import KIND, PINS, asked, assert_own, lists_in, spoil, text_of, work_of

# Wires of either kind, for the rows of parts and ways behind them.
WIRES = ["wire a number", "wire b number", "wire c number", "wire d number", "wire s truth", "wire t truth",
         "wire u truth", "wire v truth"]
FIRST = len(WIRES)


def kinds_walked(sort):
    # Each row of kinds that point 4 lets a sort have.
    return sorted({tuple(KIND[x if sign == "x" else sign] for sign in PINS[sort]) for x in "nt"})


class Reading(unittest.TestCase):
    def test_the_empty_text(self):
        for text in ("", " ", "\n", "\n\n", "   \n \n  ", " " * 400):
            with self.subTest(text=text):
                self.assertEqual(read_work(text), ([], []))

    def test_a_work(self):
        work = read_work(text_of(
            "wire a number", "wire b number shut", "wire c number", "wire t truth", "wire o truth",
            "part p add a b c", "part k const b -5", "way p off -3", "way p stuck 12", "way p pass 2",
            "part h hold t o 1", "way h flip",
        ))
        self.assertEqual(work, (
            [("a", "number", False), ("b", "number", True), ("c", "number", False), ("t", "truth", False),
             ("o", "truth", False)],
            [("p", "add", ["a", "b", "c"], None, [("off", -3), ("stuck", 12), ("pass", 2)]),
             ("k", "const", ["b"], -5, []),
             ("h", "hold", ["t", "o"], 1, [("flip", None)])],
        ))

    def test_the_kinds_of_what_is_told(self):
        wires, parts = work = work_of("wire a number", "wire b number shut", "part p copy a b", "way p stuck 4")
        self.assertIs(type(work), tuple)
        self.assertIs(type(wires), list)
        self.assertIs(type(parts), list)
        self.assertTrue(all(type(wire) is tuple for wire in wires))
        self.assertIs(wires[0][2], False)
        self.assertIs(wires[1][2], True)
        self.assertIs(type(parts[0]), tuple)
        self.assertIs(type(parts[0][2]), list)
        self.assertIs(parts[0][3], None)
        self.assertIs(type(parts[0][4]), list)
        self.assertIs(type(parts[0][4][0]), tuple)
        self.assertIs(type(parts[0][4][0][1]), int)

    def test_blanks_and_empty_rows_count_for_nothing_else(self):
        due = work_of("wire a number", "wire b number shut", "part p copy a b", "way p off 2")
        text = "\n  wire   a number  \n\n   \nwire b    number      shut\n \n\n  part p  copy a   b\n way   p off 2 \n\n"
        self.assertEqual(read_work(text), due)

    def test_all_rows_in_any_order_that_tells_names_first(self):
        work = work_of("wire a number", "part k const a 1", "wire b number", "way k stuck 2", "part p copy a b",
                       "way k off 2", "way p pass 1", "wire z truth")
        self.assertEqual([wire[0] for wire in work[0]], ["a", "b", "z"])
        self.assertEqual([(part[0], part[4]) for part in work[1]],
                         [("k", [("stuck", 2), ("off", 2)]), ("p", [("pass", 1)])])

    def test_names(self):
        for name in ("a", "z", "a0", "abcdefghijkl", "z99999999999", "wire", "part", "way", "shut", "stuck", "flip",
                     "number", "truth", "const", "add", "off", "pass"):
            with self.subTest(name=name):
                work = work_of(f"wire {name} number", f"part {name} const {name} 3", f"way {name} off 1")
                self.assertEqual(work, ([(name, "number", False)], [(name, "const", [name], 3, [("off", 1)])]))
                self.assertEqual(work_of(f"wire {name} truth shut")[0], [(name, "truth", True)])

    def test_a_wire_and_a_part_of_one_name(self):
        work = work_of("wire a number", "wire b number", "part b copy a b", "part a const a 0")
        self.assertEqual([part[0] for part in work[1]], ["b", "a"])

    def test_every_sort_with_every_kind(self):
        for sort in PINS:
            for kinds in kinds_walked(sort):
                with self.subTest(sort=sort, kinds=kinds):
                    rows = [f"wire w{pin} {kind}" for pin, kind in enumerate(kinds)]
                    pins = [f"w{pin}" for pin in range(len(kinds))]
                    number = ["1"] if sort in ("const", "hold") else []
                    work = work_of(*rows, " ".join(["part", "p", sort] + pins + number))
                    self.assertEqual(work[1], [("p", sort, pins, 1 if number else None, [])])

    def test_one_wire_at_more_than_one_pin(self):
        for row, pins in (
            ("part p add a a c", ["a", "a", "c"]), ("part p add a a a", ["a", "a", "a"]), ("part p copy a a", ["a", "a"]),
            ("part p hold t t 1", ["t", "t"]), ("part p and t t t", ["t", "t", "t"]), ("part p more a a t", ["a", "a", "t"]),
            ("part p pick t t t t", ["t", "t", "t", "t"]), ("part p pick t a a a", ["t", "a", "a", "a"]),
        ):
            with self.subTest(row=row):
                self.assertEqual(work_of(*WIRES, row)[1][0][2], pins)

    def test_numbers(self):
        for number in ("0", "1", "-1", "10", "-907", "9" * 60, "-" + "9" * 60, "1" + "0" * 59):
            with self.subTest(number=number):
                work = work_of(*WIRES, f"part p const a {number}", f"part q hold a b {number}", f"way p off {number}",
                               f"way q stuck {number}")
                self.assertEqual(work[1], [("p", "const", ["a"], int(number), [("off", int(number))]),
                                           ("q", "hold", ["a", "b"], int(number), [("stuck", int(number))])])

    def test_bounds_that_are_just_kept(self):
        rows = [f"wire w{number} number" for number in range(40)]
        rows += [f"part p{number} const w{number} {number}" for number in range(12)]
        for number in range(12):
            rows += [f"way p{number} stuck {way}" for way in range(3)]
        wires, parts = work_of(*rows)
        self.assertEqual((len(wires), len(parts)), (40, 12))
        self.assertTrue(all(len(part[4]) == 3 for part in parts))

    def test_the_lists_are_the_askers_own(self):
        rows = WIRES + ["part p add a b c", "part q copy a d", "way p off 1", "way q off 1", "part r const s 1"]
        asked(self, read_work, text_of(*rows))

    def test_a_copy_has_lists_of_its_own(self):
        work = work_of(*WIRES, "part p add a b c", "way p off 1", "part q const d 4")
        copied = copy_work(work)
        self.assertEqual(copied, work)
        assert_own(self, copied, work)
        self.assertEqual(len(lists_in(copied)), 6)
        spoil(work)
        self.assertEqual(copied[1][0], ("p", "add", ["a", "b", "c"], None, [("off", 1)]))


class Ways(unittest.TestCase):
    def fits(self, sort, kinds, word, number):
        # Point 5.
        out = kinds[-1]
        if word == "stuck":
            return out == "number" or number in (0, 1)
        if word == "off":
            return out == "number"
        if word == "flip":
            return out == "truth"
        return sort not in ("const", "hold") and number in range(1, len(kinds)) and kinds[number - 1] == out

    def test_every_way_at_every_sort(self):
        ways = [("flip", None)] + [(word, number) for word in ("stuck", "off", "pass") for number in range(-2, 6)]
        for sort in PINS:
            for kinds in kinds_walked(sort):
                rows = [f"wire w{pin} {kind}" for pin, kind in enumerate(kinds)]
                pins = " ".join(f"w{pin}" for pin in range(len(kinds)))
                rows.append(f"part p {sort} {pins}" + (" 0" if sort in ("const", "hold") else ""))
                for word, number in ways:
                    row = f"way p {word}" + ("" if number is None else f" {number}")
                    with self.subTest(sort=sort, kinds=kinds, row=row):
                        if self.fits(sort, kinds, word, number):
                            self.assertEqual(work_of(*rows, row)[1][0][4], [(word, number)])
                        else:
                            with self.assertRaises(errors.Mismatch) as taken:
                                work_of(*rows, row)
                            self.assertEqual(taken.exception.row, len(rows))

    def test_told_ones(self):
        good = {
            "part p add a b c": ["stuck 5", "off -3", "pass 1", "pass 2"],
            "part p more a b t": ["stuck 0", "stuck 1", "flip"],
            "part p pick s a b c": ["pass 2", "pass 3", "off 0"],
            "part p pick s t u v": ["pass 1", "pass 2", "pass 3"],
            "part p hold a b 3": ["stuck -3", "off 4"],
            "part p const t 1": ["flip", "stuck 1"],
        }
        for part in good:
            for way in good[part]:
                with self.subTest(part=part, way=way):
                    self.assertEqual(len(work_of(*WIRES, part, "way p " + way)[1][0][4]), 1)

    def test_one_way_with_other_numbers_and_at_other_parts(self):
        work = work_of(*WIRES, "part p copy a b", "part q copy a c", "way p off 1", "way p off 2", "way q off 1",
                       "way q stuck 1", "way p stuck 1")
        self.assertEqual([part[4] for part in work[1]],
                         [[("off", 1), ("off", 2), ("stuck", 1)], [("off", 1), ("stuck", 1)]])


class Refusing(unittest.TestCase):
    def assert_refused(self, error, rows, row):
        with self.subTest(rows=rows[-1], error=error.__name__):
            with self.assertRaises(errors.FaultError) as taken:
                read_work(text_of(*rows))
            self.assertIs(type(taken.exception), error)
            self.assertEqual(taken.exception.row, row)

    def assert_last(self, error, row, above=WIRES):
        # Also with rows behind that are at fault themselves, and with empty rows above.
        self.assert_refused(error, above + [row], len(above))
        self.assert_refused(error, above + [row, "x", row], len(above))
        self.assert_refused(error, ["", " "] + above + ["", row], len(above) + 3)


class Refusals(Refusing):
    def test_unread(self):
        for row in (
            "x", "wires a number", "Wire z number", "wire", "wire z", "part", "part p", "way", "way p", "wire z numbers",
            "wire z x", "wire z number truth", "wire z number Shut", "wire z number shut shut", "wire z number open",
            "wire 1z number", "wire Z number", "wire abcdefghijklm number", "wire z_ number", "wire z- number",
            "parts p add a b c", "pin p add a b c", "p add a b c", "part: p copy a b", "x p const a 1", "ways p stuck 1",
            "Way p stuck 1", "p stuck 1", "wire p stuck 1", "part p stuck 1", "way p add a b c", "way p copy a b",
            "shut", "number", "turns 3", "put a 0 1", "wire number z", "wire z shut number", "-", "0", "wire\tz number",
        ):
            self.assert_refused(errors.Unread, [row], 0)
            self.assert_last(errors.Unread, row)

    def test_unread_parts(self):
        for row in (
            "part p add", "part p add a", "part p add a b", "part p add a b c d", "part p add a b c 5", "part p times a b",
            "part p copy a", "part p copy a b c", "part p copy a b 1", "part p const", "part p const a", "part p const 5",
            "part p const a b 5", "part p const a 5 5", "part p const a x", "part p const a 05", "part p const a -0",
            "part p const a +5", "part p const a 5.", "part p const a " + "1" * 61, "part p hold a b", "part p hold a 5",
            "part p hold a b c", "part p hold a b 5 6", "part p hold a b c 5", "part p hold a b --5", "part p not s",
            "part p not s t u", "part p and s t", "part p and s t u v", "part p or s t", "part p xor s t u 1",
            "part p more a b", "part p more a b t t", "part p pick s a b", "part p pick s a b c d", "part p pick s a b c 1",
            "part p sub a b c", "part p Add a b c", "part p number a b c", "part 1 add a b c", "part P add a b c",
            "part p add A b c", "part p add a 5 c", "part p add a b -", "part p add a b abcdefghijklm", "part add a b c",
            "part abcdefghijklm add a b c", "part p copy 1 b", "part p hold 1 b 1", "part p const -1 1",
        ):
            self.assert_refused(errors.Unread, [row], 0)
            self.assert_last(errors.Unread, row)

    def test_unread_ways(self):
        above = WIRES + ["part p add a b c", "part q not s t"]
        for row in (
            "way p stuck", "way p off", "way p pass", "way q flip 1", "way q flip 0", "way p stuck x", "way p stuck 01",
            "way p stuck 1 1", "way p stuck -0", "way p off 1.5", "way p off " + "9" * 61, "way p pass one", "way p pass 1 2",
            "way q flip flip", "way p Stuck 1", "way p stick 1", "way p shut", "way p 1", "way P stuck 1", "way 1 stuck 1",
            "way abcdefghijklm stuck 1", "way q", "way p does 1", "way stuck 1", "way q flip -",
        ):
            self.assert_refused(errors.Unread, [row], 0)
            self.assert_last(errors.Unread, row, above)

    def test_twice(self):
        self.assert_last(errors.Twice, "wire a number")
        self.assert_last(errors.Twice, "wire a truth shut")
        self.assert_refused(errors.Twice, ["wire a number", "wire a number"], 1)
        above = WIRES + ["part p copy a b", "part q copy a c", "way p off 1", "way p stuck 1", "part f not s t", "way f flip"]
        self.assert_last(errors.Twice, "part p copy a d", above)
        self.assert_last(errors.Twice, "part p not s u", above)
        self.assert_last(errors.Twice, "part q const d 1", above)
        self.assert_last(errors.Twice, "way p off 1", above)
        self.assert_last(errors.Twice, "way p stuck 1", above)
        self.assert_last(errors.Twice, "way f flip", above)

    def test_no_name(self):
        for row in ("part p add z b c", "part p add a z c", "part p add a b z", "part p const z 1", "part p hold z a 1",
                    "part p hold a z 1", "part p pick z a b c", "part p not p p", "part p copy a p"):
            self.assert_refused(errors.NoName, [row], 0)
            self.assert_last(errors.NoName, row)
        for row in ("way p stuck 1", "way p flip", "way p off 1", "way p pass 1", "way a stuck 1"):
            self.assert_refused(errors.NoName, [row], 0)
            self.assert_last(errors.NoName, row)
            self.assert_last(errors.NoName, row, WIRES + ["part q copy a b"])

    def test_told_only_in_a_later_row(self):
        self.assert_refused(errors.NoName, ["wire a number", "part p copy a b", "wire b number"], 1)
        self.assert_refused(errors.NoName, ["part p const a 1", "wire a number"], 0)
        self.assert_refused(errors.NoName, ["wire a number", "way p off 1", "part p const a 1"], 1)

    def test_mismatch_of_each_row_of_kinds(self):
        wires = {"number": ["a", "b", "c", "d"], "truth": ["s", "t", "u", "v"]}
        for sort in PINS:
            for number in range(2 ** len(PINS[sort])):
                kinds = tuple("truth" if number >> pin & 1 else "number" for pin in range(len(PINS[sort])))
                pins = " ".join(wires[kind][pin] for pin, kind in enumerate(kinds))
                row = f"part p {sort} {pins}" + (" 1" if sort in ("const", "hold") else "")
                if kinds in kinds_walked(sort):
                    self.assertEqual(len(work_of(*WIRES, row)[1]), 1)
                else:
                    self.assert_last(errors.Mismatch, row)

    def test_mismatch_of_numbers(self):
        for number in ("2", "-1", "10", "9" * 60):
            self.assert_last(errors.Mismatch, f"part p const t {number}")
            self.assert_last(errors.Mismatch, f"part p hold s t {number}")
            for part in ("part p not s t", "part p more a b t", "part p const t 1", "part p pick s t u v"):
                self.assert_last(errors.Mismatch, f"way p stuck {number}", WIRES + [part])
        for number in ("0", "1"):
            self.assertEqual(work_of(*WIRES, f"part p hold s t {number}")[1][0][3], int(number))

    def test_mismatch_of_ways(self):
        for part, way in (
            ("part p not s t", "off 1"), ("part p more a b t", "off 0"), ("part p more a b t", "pass 1"),
            ("part p more a b t", "pass 2"), ("part p add a b c", "flip"), ("part p const a 1", "flip"),
            ("part p const a 1", "pass 1"), ("part p const t 1", "pass 1"), ("part p hold a b 1", "pass 1"),
            ("part p hold s t 1", "pass 1"), ("part p add a b c", "pass 0"), ("part p add a b c", "pass 3"),
            ("part p add a b c", "pass -1"), ("part p copy a b", "pass 2"), ("part p pick s a b c", "pass 1"),
            ("part p pick s a b c", "pass 4"), ("part p not s t", "pass 2"), ("part p copy a b", "pass " + "9" * 60),
        ):
            self.assert_last(errors.Mismatch, "way p " + way, WIRES + [part])

    def test_taken(self):
        above = WIRES + ["part p copy a c", "part q not s t"]
        for row in ("part r copy b c", "part r const c 1", "part r add c c c", "part r hold a c 1"):
            self.assert_last(errors.Taken, row, above)
        self.assert_last(errors.Taken, "part r and s s t", above)
        self.assertEqual(len(work_of(*above, "part r copy c a")[1]), 3)

    def test_too_big(self):
        wires = [f"wire w{number} number" for number in range(40)]
        parts = [f"part p{number} const w{number} 1" for number in range(12)]
        ways = ["way p0 stuck 1", "way p0 off 1", "way p0 off 2"]
        self.assert_last(errors.TooBig, "wire z number", wires)
        self.assert_last(errors.TooBig, "wire z truth shut", wires + parts)
        self.assert_last(errors.TooBig, "part z const w20 1", wires + parts)
        self.assert_last(errors.TooBig, "way p0 off 3", wires + parts + ways)
        self.assertEqual(len(work_of(*wires, *parts, *ways, "way p1 off 3")[1]), 12)


class TwoAtOnce(Refusing):
    """Where two refusals are due in one row, the one told first must come."""

    WIRES = [f"wire w{number} number" for number in range(39)] + ["wire t truth"]
    PARTS = [f"part p{number} const w{number} 1" for number in range(12)]
    WAYS = ["way p0 stuck 1", "way p0 off 1", "way p0 off 2"]

    def test_wires(self):
        few = ["wire a number"]
        self.assert_last(errors.Unread, "wire a numbers", few)
        self.assert_last(errors.Unread, "wire a number open", few)
        self.assert_last(errors.Unread, "wire z x", self.WIRES)
        self.assert_last(errors.Twice, "wire w0 number", self.WIRES)

    def test_parts(self):
        few = self.WIRES + self.PARTS[:3]
        for row in ("part p0 const w20", "part z copy nowhere w20 5", "part z copy w20 t t", "part z const w0",
                    "part z add w20 nowhere"):
            self.assert_last(errors.Unread, row, few)
        for row in ("part p0 copy nowhere w20", "part p0 copy t w20", "part p0 const w0 1", "part p1 const w0 1",
                    "part p0 add nowhere t w0"):
            self.assert_last(errors.Twice, row, few)
        for row in ("part z add nowhere t w20", "part z add w20 nowhere w0", "part z more nowhere w20 w0",
                    "part z add t nowhere w0"):
            self.assert_last(errors.NoName, row, few)
        for row in ("part z copy t w0", "part z and w20 w21 w0", "part z add w20 t w0"):
            self.assert_last(errors.Mismatch, row, few)
        self.assert_last(errors.Mismatch, "part z hold t t 7", self.WIRES + ["part p const t 1"])

    def test_the_thirteenth_part(self):
        many = self.WIRES + self.PARTS
        self.assert_last(errors.Unread, "part z const w20", many)
        self.assert_last(errors.Twice, "part p0 const w20 1", many)
        self.assert_last(errors.NoName, "part z const nowhere 1", many)
        self.assert_last(errors.Mismatch, "part z const t 2", many)
        self.assert_last(errors.Taken, "part z const w0 1", many)

    def test_ways(self):
        above = self.WIRES + self.PARTS[:1] + ["way p0 stuck 1"]
        self.assert_last(errors.Unread, "way p0 stuck 1 1", above)
        self.assert_last(errors.Unread, "way nobody stuck", above)
        self.assert_last(errors.Unread, "way p0 flip 1", above)
        for row in ("way nobody pass 0", "way nobody stuck 1", "way w0 flip"):
            self.assert_last(errors.NoName, row, above)

    def test_the_fourth_way(self):
        many = self.WIRES + self.PARTS + self.WAYS
        self.assert_last(errors.Unread, "way p0 off", many)
        self.assert_last(errors.Twice, "way p0 off 2", many)
        self.assert_last(errors.NoName, "way nobody off 2", many)
        self.assert_last(errors.Mismatch, "way p0 pass 1", many)
        self.assert_last(errors.Mismatch, "way p0 flip", many)

    def test_the_first_row_at_fault_comes_whatever_stands_behind(self):
        self.assert_refused(errors.Twice, ["wire a number", "wire a number", "nonsense"], 1)
        self.assert_refused(errors.Mismatch, ["wire a number", "wire t truth", "part p copy a t", "part p copy a b"], 2)


class Chance(unittest.TestCase):
    def test_words_thrown_together_are_read_or_refused(self):
        rng = random.Random(5)
        words = ["wire", "part", "way", "a", "b", "number", "truth", "shut", "copy", "const", "stuck", "flip", "1", "-1"]
        for number in range(3000):
            text = "\n".join(" ".join(rng.choices(words, k=rng.randint(0, 5))) for row in range(rng.randint(0, 4)))
            try:
                self.assertEqual(len(read_work(text)), 2)
            except errors.FaultError as refusal:
                self.assertTrue(0 <= refusal.row < len(text.split("\n")))


if __name__ == "__main__":
    unittest.main()
