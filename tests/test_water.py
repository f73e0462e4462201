"""Call 9, water: the order in which cells get wet, and the pass."""

import unittest

from tests.asking import BEGIN, BUILD, CHANGES, DIG, FAR, KEPT, SIZES, WATER, ask, digs, last
from tests.plain_world import is_edge, neighbours, plain_answers, plain_ground


def lower_way_out(ground, heights, start, top):
    """Whether the edge can be come to from start over cells that are all lower than top."""
    if heights[start] >= top:
        return False
    seen, new = {start}, [start]
    while new:
        place = new.pop()
        if is_edge(ground, place):
            return True
        for other in neighbours(ground, place):
            if other not in seen and heights[other] < top:
                seen.add(other)
                new.append(other)
    return False


def levelled(ground, block, height):
    """Digs that give each cell of the block this height."""
    return [call for place in block for call in digs(*place, height - ground.heights[place])]


class Water(unittest.TestCase):
    def test_from_the_edge_the_first_cell_is_all(self):
        for width, depth in SIZES:
            ground = plain_ground(5, width, depth)
            for x, y in ((0, 0), (width - 1, 0), (0, depth - 1), (width - 1, depth - 1), (0, 4), (3, depth - 1)):
                given = last((BEGIN, 5, width, depth, 4), (WATER, x, y))
                self.assertEqual(given, [0, ground.heights[x, y], y * width + x])

    def test_all_cells_of_a_small_world(self):
        for seed in (0, 3, 77):
            places = plain_ground(seed, 8, 8).places
            for start in range(0, 64, 6):
                calls = [(BEGIN, seed, 8, 8, 4)] + [(WATER, *place) for place in places[start:start + 6]]
                self.assertEqual(ask(*calls), plain_answers(calls))

    def test_worlds_of_each_size(self):
        for width, depth in SIZES:
            for seed in (1, 12345, 1000000000):
                xs, ys = (1, width // 2, width - 2), (depth // 2, 1)
                calls = [(BEGIN, seed, width, depth, 4)] + [(WATER, x, y) for x in xs for y in ys]
                with self.subTest(seed=seed, width=width, depth=depth):
                    self.assertEqual(ask(*calls), plain_answers(calls))

    def test_out_of_a_deep_hole(self):
        # The hole's bank is far above its floor: the whole of it fills before the water comes out.
        block = [(x, y) for y in (15, 16) for x in (15, 16)]
        hole = [(DIG, *place, -500) for place in block for count in range(4)]
        calls = [(BEGIN, 8, 32, 32, 4), *hole, (WATER, 15, 15), (WATER, 16, 16), (WATER, 3, 3), (CHANGES,)]
        given = ask(*calls)
        self.assertEqual(given, plain_answers(calls))
        self.assertEqual(set(given[-4][2:6]), {y * 32 + x for x, y in block})

    def test_cells_of_equal_height_by_their_number(self):
        ground = plain_ground(0, 8, 8)
        block = [(x, y) for y in (2, 3, 4) for x in (2, 3, 4)]
        low = min(ground.heights.values()) - 10
        given = last(*levelled(ground, block, low), (WATER, 3, 3))
        # From 27 its neighbours 19, 26, 28, 35 belong to the shore; 18 and 20 come by 19, 34 and 36 by the last.
        self.assertEqual(given[2:11], [27, 19, 18, 20, 26, 28, 34, 35, 36])
        calls = [*levelled(ground, block, low), (WATER, 3, 3), (WATER, 4, 4), (WATER, 2, 4)]
        self.assertEqual(ask(*calls), plain_answers(calls))

    def test_held_at_0_cells_are_equally_low(self):
        # Dug to -1 and to 0 and deeper, all are 0 high now: the number alone tells the order.
        ground = plain_ground(0, 8, 8)
        row = [(2, 3), (3, 3), (4, 3)]
        calls = [call for k, (x, y) in enumerate(row) for call in digs(x, y, -ground.heights[x, y] - 50 * k)]
        self.assertEqual(last(*calls, (WATER, 3, 3))[2:5], [27, 26, 28])

    def test_changes_turn_the_water(self):
        calls = [(BEGIN, 6, 16, 16, 4), (WATER, 7, 8)]
        first = last(*calls)
        place = (first[3] % 16, first[3] // 16)
        calls += [(DIG, *place, 500), (BUILD, 7, 8, 4), (WATER, 7, 8)]
        self.assertEqual(ask(*calls), plain_answers(calls))
        self.assertNotEqual(last(*calls), first)

    def test_the_pass_may_be_the_first_cell(self):
        given = last(*digs(3, 3, 6000), (WATER, 3, 3))
        self.assertEqual(given[1], plain_ground(0, 8, 8).heights[3, 3] + 6000)

    def test_the_pass_counts_the_edge_cell(self):
        # Beside the edge, dug to 0; of its neighbours the one of the edge is the lowest.
        ground = plain_ground(0, 8, 8)
        height = min(ground.heights[place] for place in neighbours(ground, (2, 1))) - 1
        given = last(*levelled(ground, [(2, 1)], 0), *levelled(ground, [(2, 0)], height), (WATER, 2, 1))
        self.assertEqual(given, [0, height, 10, 2])

    def test_no_way_out_has_a_lower_pass(self):
        for seed in (2, 40, 500):
            ground = plain_ground(seed, 16, 16)
            places = [(x, y) for x in range(1, 15, 3) for y in range(1, 15, 3)]
            for start in range(0, len(places), 6):
                some = places[start:start + 6]
                given = ask((BEGIN, seed, 16, 16, 4), *[(WATER, *place) for place in some])
                for place, answer in zip(some, given[1:]):
                    self.assertFalse(lower_way_out(ground, ground.heights, place, answer[1]))
                    self.assertTrue(lower_way_out(ground, ground.heights, place, answer[1] + 1))

    def test_out_of_the_world_is_refused(self):
        for width, depth in SIZES:
            for x, y in ((-1, 0), (0, -1), (width, 0), (0, depth), (-FAR, 0), (FAR, 0), (0, -FAR), (0, FAR)):
                given = ask((BEGIN, 3, width, depth, 4), (WATER, x, y), (KEPT,), (CHANGES,))
                self.assertEqual(given[1:], [[-1], [0, 0], [0]])

    def test_water_leaves_all_as_it_was(self):
        given = ask((DIG, 3, 3, 4), (WATER, 4, 4), (WATER, 4, 4), (KEPT,), (CHANGES,))
        self.assertEqual(given[1], given[2])
        self.assertEqual(given[3:], [[0, 0], [0, 3, 3, 4, 0]])


if __name__ == "__main__":
    unittest.main()
