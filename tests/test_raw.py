"""Call 14, raw: the raw number of a purpose and two numbers."""

import unittest

from tests.asking import BEGIN, FAR, KEPT, RAW, ask, last, tells_of_a_busy_world
from tests.plain_world import raw

SEEDS = (0, 1, 7, 12345, 999999999, 1000000000)


class Raw(unittest.TestCase):
    def test_worked_out_by_hand(self):
        self.assertEqual(last((RAW, 1, 0, 0)), [0, 1877281419])

    def test_by_the_words(self):
        places = [(x, y) for x in (0, 1, 31, 32, 99, 100) for y in (0, 5, 100)]
        for seed in SEEDS:
            for start in range(0, 18, 9):
                some = [(purpose, *place) for place in places[start:start + 9] for purpose in range(1, 10)]
                given = ask((BEGIN, seed, 8, 32, 1), *[(RAW, *numbers) for numbers in some])
                with self.subTest(seed=seed, start=start):
                    self.assertEqual(given[1:], [[0, raw(seed, *numbers)] for numbers in some])

    def test_least_and_greatest_of_each_range(self):
        for purpose in (1, 9):
            for x in (0, 100):
                for y in (0, 100):
                    self.assertEqual(last((RAW, purpose, x, y)), [0, raw(0, purpose, x, y)])

    def test_the_three_numbers_are_not_taken_for_one_another(self):
        self.assertEqual(len({last((RAW, *numbers))[1] for numbers in
                              ((1, 2, 3), (1, 3, 2), (2, 1, 3), (2, 3, 1), (3, 1, 2), (3, 2, 1))}), 6)

    def test_it_comes_of_the_seed_and_not_of_the_worlds_size(self):
        given = ask((RAW, 4, 60, 70), (BEGIN, 0, 32, 16, 8), (RAW, 4, 60, 70), (BEGIN, 5, 32, 16, 8), (RAW, 4, 60, 70))
        self.assertEqual(given[0], given[2])
        self.assertNotEqual(given[0], given[4])

    def test_looks_at_no_piece(self):
        self.assertEqual(last((RAW, 1, 0, 0), (KEPT,)), [0, 0])

    def test_numbers_out_of_range_are_refused_and_leave_all_as_it_was(self):
        fine = (5, 50, 50)
        wrong = ((-1, 0, 10), (-1, 101), (-1, 101))
        refused = [(RAW, *fine[:at], number, *fine[at + 1:]) for at in range(3) for number in wrong[at] + (-FAR, FAR)]
        untouched = tells_of_a_busy_world()[1]
        self.assertEqual(tells_of_a_busy_world(*refused), ([[-1]] * len(refused), untouched))


if __name__ == "__main__":
    unittest.main()
