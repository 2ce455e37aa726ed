import random
import unittest

from faultwhy.showing import write_work
from faultwhy.works import read_work
from tests.helper import GREATEST, asked, random_work, work_of


class Writing(unittest.TestCase):
    def test_a_work_without_wires_is_the_empty_text(self):
        self.assertEqual(write_work(([], [])), "")

    def test_each_form_of_row(self):
        work = (
            [("a", "number", False), ("b", "number", True), ("c", "number", False), ("s", "truth", True),
             ("t", "truth", False)],
            [("p", "add", ["a", "b", "c"], None, [("off", -3), ("stuck", 0), ("pass", 2)]),
             ("k", "const", ["a"], 0, []),
             ("h", "hold", ["s", "t"], 1, [("flip", None)])],
        )
        self.assertEqual(write_work(work), (
            "wire a number\nwire b number shut\nwire c number\nwire s truth shut\nwire t truth\n"
            "part p add a b c\nway p off -3\nway p stuck 0\nway p pass 2\npart k const a 0\npart h hold s t 1\nway h flip"
        ))

    def test_one_row_alone(self):
        self.assertEqual(write_work(([("a", "truth", False)], [])), "wire a truth")
        self.assertEqual(write_work(([("a", "truth", True)], [])), "wire a truth shut")

    def test_numbers_of_sixty_figures(self):
        work = ([("a", "number", False)], [("p", "const", ["a"], -GREATEST, [("off", GREATEST)])])
        self.assertEqual(write_work(work), f"wire a number\npart p const a -{'9' * 60}\nway p off {'9' * 60}")

    def test_blanks_go_and_rows_are_put_in_order(self):
        work = work_of("  wire a   number", "", "part k const a 1", "wire b number", "part p copy a b", "way k off 2")
        self.assertEqual(write_work(work), "wire a number\nwire b number\npart k const a 1\nway k off 2\npart p copy a b")

    def test_what_is_written_is_read_to_the_same_work(self):
        rng = random.Random(1)
        for number in range(300):
            work = random_work(rng, rng.randint(0, 12), rings=True, ways=rng.randint(0, 3), shut=0.3)
            with self.subTest(work=work):
                self.assertEqual(read_work(asked(self, write_work, work)), work)


if __name__ == "__main__":
    unittest.main()
