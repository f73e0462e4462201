"""Calls 16 and 17, way and level: where one comes to from cell to cell."""

import unittest

from tests.asking import BEGIN, BUILD, DIG, FAR, KEPT, LEVEL, PIECE, SIZES, STATE, WATER, WAY, ask, digs, last, outside
from tests.asking import tells_of_a_busy_world
from tests.plain_world import is_edge, neighbours, plain_answers, plain_ground


def winding(width, depth, count):
    """So many cells' numbers, from the world's first cell on, to the right and back again, row by row."""
    row = []
    for y in range(depth):
        across = range(width) if y % 2 == 0 else range(width - 1, -1, -1)
        row += [y * width + x for x in across]
    return row[:count]


class Way(unittest.TestCase):
    def test_worlds_of_each_size(self):
        for width, depth in SIZES:
            for seed in (1, 12345, 1000000000):
                middle = depth // 2 * width + width // 2
                ways = [winding(width, depth, 60), list(range(width)), list(range(0, width * depth, width)),
                        [middle, middle + 1, middle + 1 + width],
                        [middle + width, middle, middle - width, middle - width - 1]]
                calls = [(BEGIN, seed, width, depth, 4)]
                calls += [(WAY, way) for way in ways] + [(WAY, way[::-1]) for way in ways]
                with self.subTest(seed=seed, width=width, depth=depth):
                    given = ask(*calls)
                    self.assertEqual(given, plain_answers(calls))
                    self.assertTrue(all(answer[:2] == [0, 1] for answer in given[1:]))

    def test_of_one_cell(self):
        for width, depth in SIZES:
            ground = plain_ground(4, width, depth)
            places = ground.places[::11] + ground.places[-1:]
            given = ask((BEGIN, 4, width, depth, 4), *[(WAY, [y * width + x]) for x, y in places])
            wanted = [[0, 1, ground.heights[place], int(is_edge(ground, place))] for place in places]
            self.assertEqual(given[1:], wanted)

    def test_of_200_cells(self):
        way = winding(16, 16, 200)
        ground = plain_ground(4, 16, 16)
        greatest = max(ground.heights[number % 16, number // 16] for number in way)
        end = (way[-1] % 16, way[-1] // 16)
        given = ask((BEGIN, 4, 16, 16, 4), (WAY, way), (WAY, way[::-1]), (WAY, way[1:] + [way[-2]]), (STATE,))
        self.assertFalse(is_edge(ground, end))
        self.assertEqual(given[1:3], [[0, 1, greatest, 0], [0, 1, greatest, 1]])
        self.assertEqual(given[3][:2], [0, 1])
        self.assertEqual(given[4], [0, 16, 16, 4, 0, 0, 0])

    def test_of_more_than_200_cells_is_refused(self):
        self.assertEqual(last((BEGIN, 4, 16, 16, 4), (WAY, winding(16, 16, 201))), [-1])

    def test_200_cells_with_a_gap_at_each_end(self):
        way = winding(16, 16, 200)
        given = ask((BEGIN, 4, 16, 16, 4), (WAY, [5] + way[1:]), (WAY, way[:-1] + [5]), (WAY, way))
        self.assertEqual(given[1:3], [[0, 0], [0, 0]])

    def test_back_and_forth(self):
        heights = plain_ground(0, 8, 8).heights
        top = max(heights[1, 1], heights[2, 1])
        self.assertEqual(ask((WAY, [9, 10, 9, 10, 9]), (WAY, [9, 10, 9, 1])),
                         [[0, 1, top, 0], [0, 1, max(top, heights[1, 0]), 1]])

    def test_the_same_cell_twice_in_a_row_is_no_way(self):
        self.assertEqual(ask((WAY, [9, 9]), (WAY, [0, 1, 1, 2]), (WAY, [9, 10, 10])), [[0, 0]] * 3)

    def test_from_one_end_of_a_row_of_cells_to_the_other_end_of_the_next_is_no_way(self):
        for width, depth in SIZES:
            given = ask((BEGIN, 3, width, depth, 1), (WAY, [width - 1, width]), (WAY, [width, width - 1]),
                        (WAY, [2 * width - 2, 2 * width - 1, 2 * width]))
            self.assertEqual(given[1:], [[0, 0]] * 3)

    def test_just_the_neighbours(self):
        ground = plain_ground(3, 16, 8)
        for start in (0, 15, 7, 16, 51, 63, 112, 127):
            near = {y * 16 + x for x, y in neighbours(ground, (start % 16, start // 16))}
            given = []
            for first in range(0, 128, 64):
                given += ask((BEGIN, 3, 16, 8, 1), *[(WAY, [start, k]) for k in range(first, first + 64)])[1:]
            self.assertEqual([answer[1] for answer in given], [int(k in near) for k in range(128)])

    def test_by_heights_as_they_are_now(self):
        heights = plain_ground(0, 8, 8).heights
        calls = [*digs(3, 3, 5000), (DIG, 2, 3, -7), (BUILD, 2, 3, 5), (WAY, [26, 27, 28]), (WAY, [26]), (WAY, [35, 27])]
        given = ask(*calls)
        self.assertEqual(given[-3], [0, 1, heights[3, 3] + 5000, 0])
        self.assertEqual(given[-2], [0, 1, heights[2, 3] - 7, 0])
        self.assertEqual(given, plain_answers(calls))
        self.assertEqual(last(*digs(3, 3, 9999), (WAY, [27]))[2], 9999)
        self.assertEqual(last(*digs(3, 3, -9999), (WAY, [27]))[2], 0)

    def test_the_greatest_may_be_anywhere_on_it(self):
        for place in ((2, 3), (3, 3), (4, 3)):
            given = last(*digs(*place, 6000), (WAY, [26, 27, 28]))
            self.assertEqual(given, [0, 1, plain_ground(0, 8, 8).heights[place] + 6000, 0])

    def test_an_empty_row_is_refused(self):
        self.assertEqual(ask((WAY, []), (STATE,), (WAY, [9]))[:2], [[-1], [0, 8, 8, 4, 0, 0, 0]])
        self.assertEqual(last((STATE,), (WAY, [])), [-1])

    def test_numbers_the_world_has_not_are_refused(self):
        for width, depth in SIZES:
            for wrong in (-1, width * depth, -FAR, FAR):
                way = winding(width, depth, 9)
                ways = [[wrong], [wrong] + way, way[:4] + [wrong] + way[4:], way + [wrong], [wrong, wrong]]
                given = ask((BEGIN, 3, width, depth, 1), *[(WAY, row) for row in ways], (WAY, way))
                self.assertEqual(given[1:-1], [[-1]] * 5)
                self.assertEqual(given[-1][:2], [0, 1])

    def test_a_wrong_number_counts_before_one_that_is_no_neighbour(self):
        for wrong in (-1, 64, -FAR, FAR):
            for row in ([0, 5, wrong], [0, 0, wrong], [wrong, 0, 5], [0, 5, 6, wrong, 7], [7, 8, 64, wrong]):
                self.assertEqual(last((WAY, row)), [-1])

    def test_looks_at_no_piece(self):
        world = (BEGIN, 3, 32, 32, 2)
        given = ask(world, (PIECE, 0, 0), (PIECE, 1, 1), (WAY, winding(32, 32, 200)), (KEPT,))
        self.assertEqual(given[-1], [0, 2, 0, 0, 1, 1])

    def test_refused_leaves_all_as_it_was(self):
        untouched = tells_of_a_busy_world()[1]
        refused = [(WAY, row) for row in ([], [-1], [384], [0, 1, 384], [0, -FAR, 1], [FAR, 0, 1])]
        self.assertEqual(tells_of_a_busy_world(*refused), ([[-1]] * 6, untouched))

    def test_a_way_that_is_none_leaves_all_as_it_was(self):
        untouched = tells_of_a_busy_world()[1]
        self.assertEqual(tells_of_a_busy_world((WAY, [0, 5]), (WAY, [3, 3])), ([[0, 0]] * 2, untouched))


class Level(unittest.TestCase):
    def test_worlds_of_each_size(self):
        for width, depth in SIZES:
            for seed in (1, 12345, 1000000000):
                ground = plain_ground(seed, width, depth)
                some = [(0, 0), (width - 1, depth - 1), (width // 2, depth // 2), (0, depth // 2), (width // 2, 1)]
                calls = [(BEGIN, seed, width, depth, 4)]
                calls += [(LEVEL, *place, ground.heights[place] + 40 * k) for k, place in enumerate(some)]
                with self.subTest(seed=seed, width=width, depth=depth):
                    self.assertEqual(ask(*calls), plain_answers(calls))

    def test_all_heights_in_steps(self):
        for seed in (2, 40):
            heights = range(0, 3600, 50)
            for start in range(0, len(heights), 6):
                calls = [(BEGIN, seed, 24, 16, 4)] + [(LEVEL, 12, 8, h) for h in heights[start:start + 6]]
                self.assertEqual(ask(*calls), plain_answers(calls))

    def test_just_the_cells_height_and_one_less(self):
        for width, depth in SIZES:
            ground = plain_ground(6, width, depth)
            for place in ((0, 0), (width // 2, depth // 2)):
                h = ground.heights[place]
                calls = [(BEGIN, 6, width, depth, 4), (LEVEL, *place, h), (LEVEL, *place, h - 1), (LEVEL, *place, h + 1)]
                given = ask(*calls)
                self.assertEqual(given, plain_answers(calls))
                self.assertGreaterEqual(given[1][1], 1)
                self.assertEqual(given[2], [0, 0, 0])

    def test_0_and_9999(self):
        for width, depth in SIZES:
            given = ask((BEGIN, 6, width, depth, 4), (LEVEL, 3, 3, 0), (LEVEL, 3, 3, 9999), (LEVEL, 0, 0, 0))
            self.assertEqual(given[1:], [[0, 0, 0], [0, width * depth, 1], [0, 0, 0]])

    def test_0_over_cells_that_are_0_high(self):
        heights = plain_ground(0, 8, 8).heights
        hole = [call for place in ((3, 3), (4, 3), (4, 4)) for call in digs(*place, -heights[place] - 5)]
        self.assertEqual(last(*hole, (LEVEL, 3, 3, 0)), [0, 3, 0])
        edge = [call for place in ((0, 3), (0, 4)) for call in digs(*place, -heights[place])]
        self.assertEqual(last(*edge, (LEVEL, 0, 4, 0)), [0, 2, 1])

    def test_9999_over_cells_that_are_9999_high(self):
        given = ask(*digs(3, 3, 9999), (LEVEL, 3, 3, 9998), (LEVEL, 2, 3, 9998), (LEVEL, 2, 3, 9999), (LEVEL, 3, 3, 9999))
        self.assertEqual(given[-4:], [[0, 0, 0], [0, 63, 1], [0, 64, 1], [0, 64, 1]])

    def test_a_cell_of_the_edge_alone(self):
        heights = plain_ground(0, 8, 8).heights
        hole = digs(0, 3, -heights[0, 3])
        self.assertEqual(last(*hole, (LEVEL, 0, 3, 1)), [0, 1, 1])

    def test_cells_that_have_but_a_corner_in_common_are_not_come_to(self):
        heights = plain_ground(0, 8, 8).heights
        holes = [call for place in ((3, 3), (4, 4)) for call in digs(*place, -heights[place])]
        self.assertEqual(last(*holes, (LEVEL, 3, 3, 1)), [0, 1, 0])

    def test_a_wall_is_not_gone_over(self):
        wall = [(DIG, 4, y, 500) for y in range(8) for count in range(10)]
        given = ask(*wall, (LEVEL, 1, 1, 4000), (LEVEL, 7, 7, 4000), (LEVEL, 4, 4, 4000), (LEVEL, 1, 1, 9999))
        self.assertEqual(given[-4:], [[0, 32, 1], [0, 24, 1], [0, 0, 0], [0, 64, 1]])

    def test_by_heights_as_they_are_now(self):
        for seed in (2, 40):
            calls = [(BEGIN, seed, 16, 16, 4), (LEVEL, 8, 8, 1500), (LEVEL, 8, 8, 2000)]
            calls += [(DIG, x, 7, -500) for x in range(4, 12)] + [(DIG, 7, y, 500) for y in range(4, 12)]
            calls += [(BUILD, 0, 0, 4), (LEVEL, 8, 8, 1500), (LEVEL, 8, 8, 2000), (LEVEL, 7, 7, 2500)]
            self.assertEqual(ask(*calls), plain_answers(calls))

    def test_told_as_water_is(self):
        # At the pass one comes out of the world, one below it one doesn't.
        for seed in (5, 6, 7):
            top = last((BEGIN, seed, 32, 32, 4), (WATER, 16, 16))[1]
            given = ask((BEGIN, seed, 32, 32, 4), (LEVEL, 16, 16, top), (LEVEL, 16, 16, top - 1))
            self.assertEqual([given[1][2], given[2][2]], [1, 0])

    def test_looks_at_no_piece(self):
        world = (BEGIN, 3, 32, 32, 2)
        self.assertEqual(ask(world, (LEVEL, 9, 9, 9999), (KEPT,), (STATE,))[2:], [[0, 0], [0, 32, 32, 2, 0, 0, 0]])
        given = ask(world, (PIECE, 0, 0), (PIECE, 1, 1), (LEVEL, 0, 0, 9999), (KEPT,))
        self.assertEqual(given[-1], [0, 2, 0, 0, 1, 1])

    def test_out_of_range_is_refused(self):
        for width, depth in SIZES:
            for place in outside(width, depth):
                self.assertEqual(last((BEGIN, 3, width, depth, 4), (LEVEL, *place, 2000)), [-1])
        for h in (-1, 10000, -FAR, FAR):
            self.assertEqual(last((LEVEL, 3, 3, h)), [-1])

    def test_refused_leaves_all_as_it_was(self):
        untouched = tells_of_a_busy_world()[1]
        wrong = [(*place, 2000) for place in outside(24, 16)] + [(3, 3, h) for h in (-1, 10000, -FAR, FAR)]
        for numbers in wrong:
            self.assertEqual(tells_of_a_busy_world((LEVEL, *numbers)), ([[-1]], untouched))


if __name__ == "__main__":
    unittest.main()
