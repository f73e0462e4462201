"""Calls 10 to 12, springs, houses and house: what stands on the made ground, told without looking at a piece."""

import unittest

from tests.asking import (BEGIN, BUILD, CELL, DIG, FORGET, HOUSE, HOUSES, KEPT, PIECE, SIZES, SPRINGS, STATE, ask, digs,
                          in_lines, last, outside, pieces_of, tells_of_a_busy_world)
from tests.plain_world import cells, plain_answers, plain_ground

SEEDS = (0, 1, 7, 12345, 1000000000)


class Springs(unittest.TestCase):
    def test_all_pieces_of_all_worlds(self):
        counts = set()
        for width, depth in SIZES:
            for seed in SEEDS:
                calls = [(BEGIN, seed, width, depth, 4)] + [(SPRINGS, *piece) for piece in pieces_of(width, depth)]
                given = ask(*calls)
                counts |= {len(answer) // 2 for answer in given[1:]}
                with self.subTest(seed=seed, width=width, depth=depth):
                    self.assertEqual(given, plain_answers(calls))
        # Pieces with no spring, with one and with several were among them.
        self.assertTrue({0, 1, 2, 3} <= counts)

    def test_order_is_y_by_y_in_each_x_by_x(self):
        found = last((BEGIN, 7, 32, 32, 4), (SPRINGS, 2, 2))
        places = list(zip(found[1::2], found[2::2]))
        self.assertEqual(len(places), 7)
        self.assertEqual(places, sorted(places, key=lambda place: (place[1], place[0])))
        self.assertNotEqual(places, sorted(places))
        self.assertTrue(all(16 <= x < 24 and 16 <= y < 24 for x, y in places))

    def test_a_made_height_of_just_1400_and_one_less(self):
        high, low = plain_ground(0, 32, 32), plain_ground(212, 32, 32)
        self.assertEqual((high.heights[31, 20], low.heights[14, 30]), (1400, 1399))
        self.assertIn((31, 20), pairs(last((BEGIN, 0, 32, 32, 4), (SPRINGS, 3, 2))))
        self.assertNotIn((14, 30), pairs(last((BEGIN, 212, 32, 32, 4), (SPRINGS, 1, 3))))

    def test_it_is_the_made_height_that_counts(self):
        made = last((BEGIN, 0, 32, 32, 4), (SPRINGS, 3, 2))
        self.assertEqual(last((BEGIN, 0, 32, 32, 4), (DIG, 31, 20, -500), (SPRINGS, 3, 2)), made)
        made = last((BEGIN, 212, 32, 32, 4), (SPRINGS, 1, 3))
        self.assertEqual(last((BEGIN, 212, 32, 32, 4), (DIG, 14, 30, 500), (SPRINGS, 1, 3)), made)

    def test_looks_at_no_piece(self):
        world = (BEGIN, 3, 32, 32, 2)
        self.assertEqual(ask(world, (SPRINGS, 1, 1), (KEPT,), (STATE,))[2:], [[0, 0], [0, 32, 32, 2, 0, 0, 0]])
        given = ask(world, (PIECE, 0, 0), (PIECE, 1, 1), (SPRINGS, 0, 0), (SPRINGS, 3, 3), (KEPT,))
        self.assertEqual(given[-1], [0, 2, 0, 0, 1, 1])

    def test_pieces_the_world_has_not_are_refused(self):
        for width, depth in SIZES:
            wrong = outside(width // 8, depth // 8)
            given = ask((BEGIN, 3, width, depth, 4), *[(SPRINGS, *piece) for piece in wrong])
            self.assertEqual(given[1:], [[-1]] * len(wrong))

    def test_refused_leaves_all_as_it_was(self):
        untouched = tells_of_a_busy_world()[1]
        refused = [(SPRINGS, *piece) for piece in outside(3, 2)]
        self.assertEqual(tells_of_a_busy_world(*refused), ([[-1]] * len(refused), untouched))


def pairs(answer):
    return list(zip(answer[1::2], answer[2::2]))


class Houses(unittest.TestCase):
    def test_all_pieces_of_all_worlds(self):
        counts = set()
        for width, depth in SIZES:
            for seed in SEEDS:
                calls = [(HOUSES, *piece) for piece in pieces_of(width, depth)]
                begin = (BEGIN, seed, width, depth, 4)
                given = in_lines(begin, calls, 12)
                counts |= {len(answer) // 4 for answer in given}
                with self.subTest(seed=seed, width=width, depth=depth):
                    self.assertEqual(given, plain_answers([begin] + calls)[1:])
        self.assertTrue({0, 1, 2, 3} <= counts)

    def test_many_seeds(self):
        for seed in range(200, 240):
            calls = [(HOUSES, *piece) for piece in pieces_of(32, 32)]
            begin = (BEGIN, seed, 32, 32, 4)
            with self.subTest(seed=seed):
                self.assertEqual(in_lines(begin, calls, 12), plain_answers([begin] + calls)[1:])

    def test_order_is_y_by_y_in_each_x_by_x(self):
        orders = 0
        for seed in range(20):
            for piece in pieces_of(32, 32):
                answer = last((BEGIN, seed, 32, 32, 4), (HOUSES, *piece))
                corners = list(zip(answer[1::4], answer[2::4]))
                self.assertEqual(corners, sorted(corners, key=lambda place: (place[1], place[0])))
                orders += corners != sorted(corners)
        self.assertGreater(orders, 10)

    def test_a_house_is_told_of_the_piece_its_corner_lies_in(self):
        # One that covers cells of four pieces, and others that cover cells of two.
        spread = set()
        for seed in (0, 1, 2, 4):
            ground = plain_ground(seed, 32, 32)
            for house in ground.houses:
                over = {(x // 8, y // 8) for x, y in cells(house)}
                spread.add(len(over))
                for piece in over:
                    answer = last((BEGIN, seed, 32, 32, 4), (HOUSES, *piece))
                    told = list(house) in [answer[at:at + 4] for at in range(1, len(answer), 4)]
                    self.assertEqual(told, piece == (house[0] // 8, house[1] // 8))
        self.assertEqual(spread, {1, 2, 4})

    def test_300_more_than_the_least_height_is_flat_and_301_is_not(self):
        self.assertEqual(last((BEGIN, 3, 32, 32, 4), (HOUSE, 4, 25)), [0, 3, 23, 2, 3])
        self.assertEqual(spread_of(3, (3, 23, 2, 3)), 300)
        self.assertNotIn(16 + 32 * 27, corner_numbers(15))
        self.assertEqual(spread_of(15, (16, 27, 3, 4)), 301)

    def test_it_is_the_made_height_that_counts(self):
        begin = (BEGIN, 3, 32, 32, 4)
        made = last(begin, (HOUSES, 0, 2))
        self.assertEqual(last(begin, *digs(3, 23, 3000), *digs(4, 25, -3000), (HOUSES, 0, 2)), made)
        begin = (BEGIN, 15, 32, 32, 4)
        levelled = [call for x, y in cells((16, 27, 3, 4)) for call in
                    digs(x, y, 1500 - plain_ground(15, 32, 32).heights[x, y])]
        self.assertEqual(last(begin, *levelled, (HOUSES, 2, 3)), last(begin, (HOUSES, 2, 3)))

    def test_looks_at_no_piece(self):
        world = (BEGIN, 3, 32, 32, 2)
        self.assertEqual(ask(world, (HOUSES, 1, 1), (KEPT,), (STATE,))[2:], [[0, 0], [0, 32, 32, 2, 0, 0, 0]])
        given = ask(world, (PIECE, 0, 0), (PIECE, 1, 1), (HOUSES, 0, 0), (HOUSES, 3, 3), (KEPT,))
        self.assertEqual(given[-1], [0, 2, 0, 0, 1, 1])

    def test_pieces_the_world_has_not_are_refused(self):
        for width, depth in SIZES:
            wrong = outside(width // 8, depth // 8)
            given = ask((BEGIN, 3, width, depth, 4), *[(HOUSES, *piece) for piece in wrong])
            self.assertEqual(given[1:], [[-1]] * len(wrong))

    def test_refused_leaves_all_as_it_was(self):
        untouched = tells_of_a_busy_world()[1]
        refused = [(HOUSES, *piece) for piece in ((-1, 0), (3, 0), (0, -1), (0, 2))]
        self.assertEqual(tells_of_a_busy_world(*refused), ([[-1]] * 4, untouched))


def spread_of(seed, house):
    heights = [plain_ground(seed, 32, 32).heights[cell] for cell in cells(house)]
    return max(heights) - min(heights)


def corner_numbers(seed):
    answers = in_lines((BEGIN, seed, 32, 32, 4), [(HOUSES, *piece) for piece in pieces_of(32, 32)], 12)
    return {x + 32 * y for answer in answers for x, y in zip(answer[1::4], answer[2::4])}


class House(unittest.TestCase):
    def test_all_cells_of_all_worlds(self):
        for width, depth in SIZES:
            begin = (BEGIN, 8, width, depth, 4)
            calls = [(HOUSE, *place) for place in plain_ground(8, width, depth).places]
            with self.subTest(width=width, depth=depth):
                self.assertEqual(in_lines(begin, calls, 99), plain_answers([begin] + calls)[1:])

    def test_several_seeds(self):
        for seed in SEEDS + (2, 4):
            begin = (BEGIN, seed, 32, 32, 4)
            calls = [(HOUSE, *place) for place in plain_ground(seed, 32, 32).places]
            with self.subTest(seed=seed):
                self.assertEqual(in_lines(begin, calls, 99), plain_answers([begin] + calls)[1:])

    def test_each_cell_of_a_house_and_those_around_it(self):
        # Its cells lie in four pieces; no other house stands beside it.
        ground = plain_ground(0, 32, 32)
        house = next(one for one in ground.houses if len({(x // 8, y // 8) for x, y in cells(one)}) == 4)
        x, y, width, depth = house
        around = cells((x - 1, y - 1, width + 2, depth + 2))
        given = ask((BEGIN, 0, 32, 32, 4), *[(HOUSE, *place) for place in around])
        self.assertEqual(given[1:], [[0, *house] if place in cells(house) else [-4] for place in around])

    def test_where_none_covers_the_cell_it_is_refused(self):
        for kind in (0, 1, 2):
            ground = plain_ground(2, 32, 32)
            place = next(place for place in ground.places if ground.kinds[place] == kind)
            self.assertEqual(last((BEGIN, 2, 32, 32, 4), (HOUSE, *place)), [-4])

    def test_what_was_dug_or_built_is_no_house(self):
        ground = plain_ground(3, 32, 32)
        x, y = next(place for place in ground.places if place not in ground.covered)
        self.assertEqual(last((BEGIN, 3, 32, 32, 4), (BUILD, x, y, 4), (HOUSE, x, y)), [-4])
        self.assertEqual(last((BEGIN, 3, 32, 32, 4), *digs(4, 25, 4000), (HOUSE, 4, 25)), [0, 3, 23, 2, 3])

    def test_looks_at_no_piece(self):
        world = (BEGIN, 3, 32, 32, 2)
        self.assertEqual(ask(world, (HOUSE, 4, 25), (KEPT,), (STATE,))[2:], [[0, 0], [0, 32, 32, 2, 0, 0, 0]])
        given = ask(world, (CELL, 0, 0), (CELL, 9, 9), (FORGET, 0, 0), (HOUSE, 0, 0), (HOUSE, 4, 25), (KEPT,))
        self.assertEqual(given[-1], [0, 2, 1, 1])

    def test_out_of_the_world_is_refused_with_the_nearest_to_0(self):
        # No house covers such a cell either: both -1 and -4 are due.
        for width, depth in SIZES:
            wrong = outside(width, depth)
            given = ask((BEGIN, 3, width, depth, 4), *[(HOUSE, *place) for place in wrong])
            self.assertEqual(given[1:], [[-1]] * len(wrong))

    def test_refused_leaves_all_as_it_was(self):
        untouched = tells_of_a_busy_world()[1]
        free = next(place for place in plain_ground(9, 24, 16).places if place not in plain_ground(9, 24, 16).covered)
        refused = [(HOUSE, *free)] + [(HOUSE, *place) for place in outside(24, 16)]
        self.assertEqual(tells_of_a_busy_world(*refused), ([[-4]] + [[-1]] * (len(refused) - 1), untouched))


if __name__ == "__main__":
    unittest.main()
