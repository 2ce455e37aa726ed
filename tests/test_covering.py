import itertools
import random
import unittest

from faultwhy.covering import least_covers
from tests.helper import asked


def masks(family):
    return [sum(1 << number for number in one) for one in family]


def due_covers(family, members=range(12)):
    # All sets walked, the lesser ones first; in the told order.
    told, found = [], []
    lists = masks(family)
    for size in range(len(members) + 1):
        for cover in itertools.combinations(members, size):
            mask = sum(1 << number for number in cover)
            if all(mask & one for one in lists) and not any(mask & one == one for one in found):
                told.append(list(cover))
                found.append(mask)
    return told


class Covers(unittest.TestCase):
    def assert_covers(self, family, due=None):
        with self.subTest(family=family[:20]):
            told = asked(self, least_covers, family)
            self.assertEqual(told, due_covers(family) if due is None else due)
            self.assertIs(type(told), list)
            self.assertTrue(all(type(one) is list for one in told))

    def test_no_list(self):
        self.assert_covers([], [[]])

    def test_an_empty_list(self):
        self.assert_covers([[]], [])
        self.assert_covers([[], []], [])
        self.assert_covers([[1, 2], [], [3]], [])
        self.assert_covers([[0], []], [])

    def test_one_list(self):
        self.assert_covers([[0]], [[0]])
        self.assert_covers([[11]], [[11]])
        self.assert_covers([[3, 5, 11]], [[3], [5], [11]])
        self.assert_covers([list(range(12))], [[number] for number in range(12)])

    def test_several_lists(self):
        self.assert_covers([[0, 1], [1, 2]], [[1], [0, 2]])
        self.assert_covers([[0, 1], [2, 3]], [[0, 2], [0, 3], [1, 2], [1, 3]])
        self.assert_covers([[0], [1], [2]], [[0, 1, 2]])
        self.assert_covers([[0, 11], [5, 11], [5, 10]], [[0, 5], [5, 11], [10, 11]])

    def test_a_list_twice_and_a_list_within_another(self):
        self.assert_covers([[0, 1], [0, 1]], [[0], [1]])
        self.assert_covers([[0, 1, 2], [1]], [[1]])
        self.assert_covers([[1], [0, 1, 2], [1, 5], [1]], [[1]])
        self.assert_covers([[0, 1, 2], [0, 1]], [[0], [1]])

    def test_the_order(self):
        self.assert_covers([[9, 10], [2, 9], [2, 10]], [[2, 9], [2, 10], [9, 10]])
        self.assert_covers([[0, 9], [1, 9], [2, 9], [3, 10]], [[3, 9], [9, 10], [0, 1, 2, 3], [0, 1, 2, 10]])

    def test_each_number_by_itself(self):
        self.assert_covers([[number] for number in range(12)], [list(range(12))])
        self.assert_covers([[number] for number in reversed(range(12))], [list(range(12))])

    def test_families_of_all_lists_of_one_length(self):
        for size in range(1, 13):
            family = [list(one) for one in itertools.combinations(range(12), size)]
            due = [list(one) for one in itertools.combinations(range(12), 13 - size)]
            self.assert_covers(family, due)

    def test_pairs(self):
        family = [[number, number + 6] for number in range(6)]
        told = least_covers(family)
        self.assertEqual(len(told), 64)
        self.assert_covers(family)

    def test_random_families(self):
        rng = random.Random(31)
        for number in range(120):
            most = rng.choice([3, 6, 12])
            count = rng.choice([1, 2, 4, 8, 20, 60])
            family = [sorted(rng.sample(range(12), rng.randint(1, most))) for one in range(count)]
            self.assert_covers(family)

    def test_a_thousand_lists(self):
        rng = random.Random(32)
        for low, most in ((1, 12), (2, 3), (4, 8), (6, 6), (9, 12), (0, 12)):
            family = [sorted(rng.sample(range(12), rng.randint(low, most))) for one in range(1000)]
            self.assert_covers(family)

    def test_every_family_of_three_numbers(self):
        lists = [list(one) for size in range(4) for one in itertools.combinations(range(3), size)]
        for number in range(2 ** len(lists)):
            family = [one for place, one in enumerate(lists) if number >> place & 1]
            self.assertEqual(least_covers(family), due_covers(family, range(3)))

    def test_meeting_twice_gives_the_least_lists_back(self):
        rng = random.Random(33)
        for number in range(60):
            family = [sorted(rng.sample(range(12), rng.randint(1, 5))) for one in range(rng.randint(1, 12))]
            least = [one for one in family if not any(set(other) < set(one) for other in family)]
            unlike = [list(one) for one in sorted(set(map(tuple, least)), key=lambda one: (len(one), one))]
            self.assertEqual(least_covers(least_covers(family)), unlike)


if __name__ == "__main__":
    unittest.main()
