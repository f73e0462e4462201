"""Calls 1 and 2, cell and piece: heights and kinds, as made and as they are now."""

import unittest

from groundseen.houses import House, goes_ahead, stands
from groundseen.raws import raw_number, stirred
from tests.asking import BEGIN, BUILD, CELL, DIG, FAR, KEPT, PIECE, SIZES, ask, digs, last, world_by_pieces
from tests.plain_world import plain_ground, raw

SEEDS = (0, 1, 7, 12345, 999999999, 1000000000)


class RawNumbers(unittest.TestCase):
    def test_worked_out_by_hand(self):
        self.assertEqual(stirred(0, 0), 182618139)
        self.assertEqual(stirred(0, 1), 730435521)
        self.assertEqual(raw_number(0, 1, 0, 0), 1877281419)

    def test_by_the_words(self):
        for seed in SEEDS:
            for purpose in range(1, 10):
                self.assertEqual(raw_number(seed, purpose, 3, 100), raw(seed, purpose, 3, 100))


class Cell(unittest.TestCase):
    def test_worked_out_by_hand(self):
        self.assertEqual(last((CELL, 0, 0)), [0, 2179, 0])
        self.assertEqual(last((BEGIN, 7, 8, 8, 1), (CELL, 5, 6))[:2], [0, 1455])
        self.assertEqual(last((BEGIN, 1000000000, 32, 32, 1), (CELL, 31, 31)), [0, 2437, 1])

    def test_middle_edges_and_corners_of_worlds(self):
        for width, depth in SIZES:
            for seed in SEEDS:
                ground = plain_ground(seed, width, depth)
                xs, ys = (0, width // 2 + 1, width - 1), (0, depth // 2 - 1, depth - 1)
                places = [(x, y) for x in xs for y in ys]
                given = ask((BEGIN, seed, width, depth, 4), *[(CELL, x, y) for x, y in places])
                with self.subTest(seed=seed, width=width, depth=depth):
                    self.assertEqual(given[1:], [[0, ground.heights[at], ground.kinds[at]] for at in places])

    def test_out_of_the_world_is_refused(self):
        for width, depth in SIZES:
            for x, y in ((-1, 0), (0, -1), (width, 0), (0, depth), (-FAR, 0), (FAR, 0), (0, -FAR), (0, FAR)):
                self.assertEqual(last((BEGIN, 3, width, depth, 4), (CELL, x, y)), [-1])

    def test_refused_looks_at_nothing(self):
        self.assertEqual(last((CELL, -1, 0), (CELL, 8, 0), (CELL, 0, FAR), (KEPT,)), [0, 0])

    def test_as_it_is_now(self):
        ground = plain_ground(0, 8, 8)
        given = ask((CELL, 2, 2), (DIG, 2, 2, -77), (CELL, 2, 2), (BUILD, 2, 2, 9), (CELL, 2, 2))
        height = ground.heights[2, 2]
        self.assertEqual([given[0], given[2], given[4]],
                         [[0, height, ground.kinds[2, 2]], [0, height - 77, ground.kinds[2, 2]], [0, height - 77, 9]])

    def test_the_made_kind_stays_when_rock_is_dug_or_plain_raised(self):
        for kind, up in ((1, -2000), (0, 3000)):
            seed, place = find_kind(kind)
            given = last((BEGIN, seed, 32, 32, 1), *digs(*place, up), (CELL, *place))
            self.assertEqual(given, [0, plain_ground(seed, 32, 32).heights[place] + up, kind])

    def test_a_house_stands_on_though_the_ground_is_dug(self):
        seed, place = find_kind(3)
        given = last((BEGIN, seed, 32, 32, 1), *digs(*place, 3000), (CELL, *place))
        self.assertEqual(given, [0, plain_ground(seed, 32, 32).heights[place] + 3000, 3])


def find_kind(kind):
    for seed in range(100):
        ground = plain_ground(seed, 32, 32)
        for place in ground.places:
            if ground.kinds[place] == kind:
                return seed, place
    raise AssertionError(f"no cell of kind {kind}")


class Piece(unittest.TestCase):
    def test_all_cells_of_all_worlds(self):
        kinds = set()
        for width, depth in SIZES:
            for seed in SEEDS:
                ground = plain_ground(seed, width, depth)
                found = world_by_pieces(seed, width, depth)
                kinds |= set(ground.kinds.values())
                with self.subTest(seed=seed, width=width, depth=depth):
                    self.assertEqual(found, {at: [ground.heights[at], ground.kinds[at]] for at in ground.places})
        self.assertEqual(kinds, {0, 1, 2, 3})

    def test_many_seeds(self):
        for seed in range(100, 160):
            ground = plain_ground(seed, 32, 32)
            found = world_by_pieces(seed, 32, 32)
            with self.subTest(seed=seed):
                self.assertEqual(found, {at: [ground.heights[at], ground.kinds[at]] for at in ground.places})

    def test_order_of_the_cells(self):
        given = last((BEGIN, 11, 16, 24, 4), (PIECE, 1, 2))
        heights = plain_ground(11, 16, 24).heights
        self.assertEqual(len(given), 129)
        self.assertEqual(given[0], 0)
        self.assertEqual(given[1], heights[8, 16])
        self.assertEqual(given[3], heights[9, 16])
        self.assertEqual(given[17], heights[8, 17])
        self.assertEqual(given[127], heights[15, 23])

    def test_as_it_is_now(self):
        made = last((BEGIN, 11, 16, 24, 4), (PIECE, 1, 2))
        given = last((BEGIN, 11, 16, 24, 4), (PIECE, 1, 2), (DIG, 9, 17, 33), (BUILD, 15, 23, 5), (PIECE, 1, 2))
        at = 1 + 2 * 9
        self.assertEqual(given, made[:at] + [made[at] + 33] + made[at + 1:-1] + [5])

    def test_pieces_the_world_has_not_are_refused(self):
        for width, depth in SIZES:
            across, down = width // 8, depth // 8
            for i, j in ((-1, 0), (0, -1), (across, 0), (0, down), (-FAR, 0), (FAR, 0), (0, -FAR), (0, FAR)):
                self.assertEqual(ask((BEGIN, 3, width, depth, 4), (PIECE, i, j), (KEPT,))[1:], [[-1], [0, 0]])


class EqualRawNumbers(unittest.TestCase):
    """Two candidates with the same raw number of purpose 8: too rare to be met in a world."""

    def test_the_lesser_y_then_the_lesser_x_goes_ahead(self):
        high, right, low = House(5, 2, 2, 2, 9), House(4, 3, 2, 2, 9), House(3, 3, 2, 2, 9)
        for one, other in ((high, low), (high, right), (low, right)):
            self.assertTrue(goes_ahead(one, other))
            self.assertFalse(goes_ahead(other, one))
        self.assertEqual([stands(house, [high, right, low]) for house in (high, right, low)], [True, False, False])

    def test_the_greater_raw_number_comes_before_all(self):
        self.assertTrue(goes_ahead(House(9, 9, 2, 2, 10), House(8, 8, 2, 2, 9)))


if __name__ == "__main__":
    unittest.main()
