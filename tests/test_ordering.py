import random
import unittest

from faultwhy.errors import Ring
from faultwhy.ordering import order_of
from tests.helper import asked, random_work, work_of

NUMBERS = ["wire a number", "wire b number", "wire c number", "wire d number", "wire e number", "wire f number"]
TRUTHS = ["wire s truth", "wire t truth", "wire u truth"]


def may_stand(part, parts, order):
    return part[1] == "hold" or all(other[0] in order for other in parts if other[2][-1] in part[2][:-1])


def due_order(work):
    # Point 12, and None where parts are left and none may stand.
    order = []
    while len(order) < len(work[1]):
        able = [part[0] for part in work[1] if part[0] not in order and may_stand(part, work[1], order)]
        if not able:
            return None
        order.append(able[0])
    return order


class Orders(unittest.TestCase):
    def assert_order(self, names, *rows):
        work = work_of(*NUMBERS, *TRUTHS, *rows)
        told = asked(self, order_of, work)
        self.assertEqual(told, names.split())
        self.assertIs(type(told), list)
        self.assertEqual(due_order(work), told)

    def test_no_parts(self):
        self.assertEqual(order_of(([], [])), [])
        self.assert_order("")

    def test_in_the_order_of_the_rows(self):
        self.assert_order("p q r", "part p copy a b", "part q copy b c", "part r copy c d")

    def test_against_the_order_of_the_rows(self):
        self.assert_order("r q p", "part p copy c d", "part q copy b c", "part r copy a b")

    def test_ties_go_by_the_works_order(self):
        self.assert_order("z y x", "part z copy a b", "part y copy a c", "part x copy a d")
        self.assert_order("q p z y", "part p copy b c", "part q copy a b", "part z copy c d", "part y copy a e")

    def test_the_first_one_that_may_comes_next_though_others_wait_longer(self):
        # Once q stands, p may too, and goes ahead of r.
        self.assert_order("q p r", "part p copy b c", "part q copy a b", "part r copy a d")

    def test_holds_stand_anywhere(self):
        self.assert_order("h p", "part h hold b a 1", "part p copy a b")
        self.assert_order("h p", "part p copy a b", "part h hold b a 1")
        self.assert_order("h", "part h hold a a 1")
        self.assert_order("h g", "part h hold b a 1", "part g hold a b 1")

    def test_a_part_waits_for_a_hold_that_feeds_it(self):
        self.assert_order("q h p", "part p copy b c", "part q copy a d", "part h hold d b 1")

    def test_a_hold_does_not_wait_for_what_feeds_it(self):
        self.assert_order("h q p", "part h hold c d 1", "part p copy b c", "part q copy a b")

    def test_parts_with_two_feeders(self):
        self.assert_order("q r p", "part p add b c d", "part q copy a b", "part r copy a c")
        self.assert_order("w p", "part p pick s a b c", "part w more a b s")

    def test_random_works(self):
        rng = random.Random(3)
        for number in range(400):
            work = random_work(rng, rng.randint(1, 12))
            self.assertEqual(order_of(work), due_order(work))


class Rings(unittest.TestCase):
    def check_ring(self, work, names):
        # Point 12's own words of a ring.
        parts = {part[0]: part for part in work[1]}
        self.assertIs(type(names), list)
        self.assertTrue(names)
        self.assertEqual(len(set(names)), len(names))
        for number, name in enumerate(names):
            following = parts[names[(number + 1) % len(names)]]
            self.assertNotEqual(parts[name][1], "hold")
            self.assertIn(parts[name][2][-1], following[2][:-1])

    def assert_ring(self, among, *rows):
        work = work_of(*NUMBERS, *TRUTHS, *rows)
        self.assertIsNone(due_order(work))
        with self.assertRaises(Ring) as taken:
            order_of(work)
        self.check_ring(work, taken.exception.names)
        self.assertIn(sorted(taken.exception.names), [sorted(names.split()) for names in among])

    def test_rings_of_one(self):
        self.assert_ring(["p"], "part p copy a a")
        self.assert_ring(["p"], "part p add b a a")
        self.assert_ring(["p"], "part p and s t t")
        self.assert_ring(["p"], "part q copy a b", "part p add b c c", "part r copy c d")

    def test_one_name_alone_where_a_parts_out_is_one_of_its_own_ins(self):
        self.assert_ring(["p"], "part p add b a a", "part q copy a b")
        self.assert_ring(["p"], "part q copy a b", "part p add b a a")
        self.assert_ring(["p"], "part q copy c b", "part r copy a c", "part p add b a a")

    def test_rings_of_two(self):
        self.assert_ring(["p q"], "part p copy a b", "part q copy b a")
        self.assert_ring(["p q"], "part p add c a b", "part q add b b a")

    def test_rings_of_more(self):
        self.assert_ring(["p q r"], "part p copy a b", "part q copy b c", "part r copy c a")
        self.assert_ring(["p q r"], "part p copy c a", "part q copy b c", "part r copy a b")
        self.assert_ring(["p q r s"], "part p copy a b", "part q copy c d", "part r copy b c", "part s copy d a")

    def test_rings_beside_other_parts(self):
        self.assert_ring(["p q"], "part o copy e a", "part p add a b c", "part q copy c b", "part r copy c d")
        self.assert_ring(["p q"], "part r copy d e", "part z copy c d", "part q copy c b", "part p add a b c")

    def test_one_of_several_rings(self):
        self.assert_ring(["p q", "r s"], "part p copy a b", "part q copy b a", "part r copy c d", "part s copy d c")
        self.assert_ring(["p", "q"], "part p add a b a", "part q add a b b")

    def test_the_only_breaker_is_a_hold(self):
        work = work_of(*NUMBERS, "part p copy a b", "part q copy b c", "part h hold c a 0")
        self.assertEqual(order_of(work), ["h", "p", "q"])

    def test_a_hold_closes_no_ring_but_another_part_does(self):
        self.assert_ring(["p q"], "part h hold b e 1", "part p pick s e d b", "part q copy b d", "part k const s 1")

    def test_random_works(self):
        rng = random.Random(4)
        seen = 0
        for number in range(600):
            work = random_work(rng, rng.randint(1, 12), wires=rng.randint(14, 26), rings=True)
            due = due_order(work)
            if due is None:
                seen += 1
                with self.assertRaises(Ring) as taken:
                    order_of(work)
                self.check_ring(work, taken.exception.names)
            else:
                self.assertEqual(order_of(work), due)
        self.assertTrue(100 < seen < 590)


if __name__ == "__main__":
    unittest.main()
