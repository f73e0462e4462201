"""Call 0, begin, and what there is at a line's beginning."""

import unittest

from groundseen.state import World
from tests.asking import BEGIN, BUILD, CELL, CHANGES, DIG, FAR, FORGET, KEPT, PIECE, ask, last
from tests.plain_world import plain_ground


class LinesBeginning(unittest.TestCase):
    def test_seed_is_0(self):
        ground = plain_ground(0, 8, 8)
        self.assertEqual(last((CELL, 3, 5)), [0, ground.heights[3, 5], ground.kinds[3, 5]])

    def test_world_is_8_wide_and_8_deep(self):
        self.assertEqual(ask((CELL, 7, 7), (CELL, 8, 7), (CELL, 7, 8), (PIECE, 1, 0), (PIECE, 0, 1))[1:], [[-1]] * 4)

    def test_nothing_is_kept_made_or_changed(self):
        self.assertEqual(ask((KEPT,), (CHANGES,), (FORGET, 0, 0)), [[0, 0], [0], [-4]])

    def test_one_piece_is_all_the_first_world_has(self):
        self.assertEqual(ask((CELL, 0, 0), (CELL, 7, 7), (KEPT,))[2], [0, 1, 0, 0])

    def test_4_pieces_can_be_kept(self):
        # No call tells it of a world with a single piece.
        self.assertEqual(World().pieces.room, 4)


class Begin(unittest.TestCase):
    def test_answers_0_alone(self):
        self.assertEqual(ask((BEGIN, 5, 16, 24, 3)), [[0]])

    def test_each_width_and_depth(self):
        for width in (8, 16, 24, 32):
            for depth in (8, 16, 24, 32):
                world = (BEGIN, 5, width, depth, 3)
                with self.subTest(width=width, depth=depth):
                    given = ask(world, (CELL, width - 1, depth - 1), (CELL, width, 0), (CELL, 0, depth))
                    ground = plain_ground(5, width, depth)
                    corner = (width - 1, depth - 1)
                    self.assertEqual(given, [[0], [0, ground.heights[corner], ground.kinds[corner]], [-1], [-1]])

    def test_least_and_greatest_of_each_range(self):
        for numbers in ((0, 8, 8, 1), (1000000000, 32, 32, 8)):
            self.assertEqual(last((BEGIN,) + numbers), [0])

    def test_numbers_out_of_range_are_refused(self):
        fine = (5, 16, 16, 4)
        wrong = (
            (-1, 1000000001),
            (-8, 0, 1, 7, 9, 12, 15, 17, 23, 25, 31, 33, 40),
            (-8, 0, 1, 7, 9, 12, 15, 17, 23, 25, 31, 33, 40),
            (-1, 0, 9),
        )
        for at in range(4):
            for number in wrong[at] + (-FAR, FAR):
                numbers = fine[:at] + (number,) + fine[at + 1:]
                with self.subTest(numbers=numbers):
                    self.assertEqual(last((BEGIN,) + numbers), [-1])

    def test_refused_leaves_all_as_it_was(self):
        before = [(BEGIN, 9, 24, 16, 2), (CELL, 23, 15), (CELL, 0, 0), (DIG, 4, 4, 10), (BUILD, 23, 15, 7)]
        behind = [(KEPT,), (CHANGES,), (CELL, 23, 15), (CELL, 4, 4), (CELL, 12, 9), (KEPT,)]
        for refused in ((BEGIN, -1, 8, 8, 1), (BEGIN, 3, 9, 8, 1), (BEGIN, 3, 8, 9, 1), (BEGIN, 3, 8, 8, 9)):
            self.assertEqual(ask(*before, refused, *behind)[6:], ask(*before, *behind)[5:])

    def test_a_new_world_has_nothing_of_the_old_one(self):
        given = ask((BEGIN, 9, 16, 16, 2), (CELL, 9, 9), (DIG, 4, 4, 10), (BUILD, 5, 5, 4),
                    (BEGIN, 9, 16, 16, 2), (KEPT,), (CHANGES,), (FORGET, 1, 1), (CELL, 4, 4))
        ground = plain_ground(9, 16, 16)
        self.assertEqual(given[4:], [[0], [0, 0], [0], [-4], [0, ground.heights[4, 4], ground.kinds[4, 4]]])

    def test_the_seed_counts(self):
        seen = {tuple(last((BEGIN, seed, 8, 8, 1), (PIECE, 0, 0))) for seed in (0, 1, 2, 999999999, 1000000000)}
        self.assertEqual(len(seen), 5)


if __name__ == "__main__":
    unittest.main()
