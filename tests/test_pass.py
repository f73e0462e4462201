"""Call 13, pass: water from one cell till another is wet."""

import unittest

from tests.asking import BEGIN, BUILD, DIG, KEPT, PASS, PIECE, SIZES, STATE, WATER, ask, digs, last, outside
from tests.asking import tells_of_a_busy_world
from tests.plain_world import is_edge, neighbours, plain_answers, plain_ground


def spots(width, depth):
    """The world's corners, cells of its edge and cells in its middle."""
    return [(0, 0), (width - 1, depth - 1), (width // 2, depth // 2), (0, depth // 2), (width - 1, 0), (width // 2, 1)]


class Pass(unittest.TestCase):
    def test_worlds_of_each_size(self):
        for width, depth in SIZES:
            for seed in (1, 12345, 1000000000):
                some = spots(width, depth)
                calls = [(BEGIN, seed, width, depth, 4)]
                calls += [(PASS, *one, *other) for one, other in zip(some, some[1:] + some[:1])]
                with self.subTest(seed=seed, width=width, depth=depth):
                    self.assertEqual(ask(*calls), plain_answers(calls))

    def test_all_cells_of_a_small_world(self):
        for seed in (0, 77):
            places = plain_ground(seed, 8, 8).places
            for start in range(0, 64, 6):
                calls = [(BEGIN, seed, 8, 8, 4)] + [(PASS, 3, 4, *place) for place in places[start:start + 6]]
                self.assertEqual(ask(*calls), plain_answers(calls))

    def test_from_a_cell_to_itself_it_alone_gets_wet(self):
        for width, depth in SIZES:
            heights = plain_ground(6, width, depth).heights
            some = spots(width, depth)
            given = ask((BEGIN, 6, width, depth, 4), *[(PASS, *place, *place) for place in some])
            self.assertEqual(given[1:], [[0, heights[place], 1] for place in some])

    def test_to_a_neighbour(self):
        ground = plain_ground(6, 16, 16)
        for place in ((0, 0), (8, 8), (15, 7)):
            around = neighbours(ground, place)
            calls = [(BEGIN, 6, 16, 16, 4)] + [(PASS, *place, *other) for other in around]
            given = ask(*calls)
            self.assertEqual(given, plain_answers(calls))
            # The lowest neighbour is the second cell that gets wet.
            lowest = min(around, key=lambda other: (ground.heights[other], other[1], other[0]))
            both = max(ground.heights[place], ground.heights[lowest])
            self.assertEqual(given[1 + around.index(lowest)], [0, both, 2])

    def test_the_second_cell_ends_it_and_not_the_edge(self):
        ground = plain_ground(6, 16, 16)
        given = last((BEGIN, 6, 16, 16, 4), (PASS, 0, 0, 8, 8))
        self.assertGreater(given[2], 8)
        highest = max(ground.places, key=ground.heights.get)
        start = next(place for place in ground.places if is_edge(ground, place) and place != highest)
        self.assertEqual(last((BEGIN, 6, 16, 16, 4), (PASS, *start, *highest))[1], ground.heights[highest])

    def test_the_pass_is_the_same_both_ways_round(self):
        for seed in (2, 40):
            given = ask((BEGIN, seed, 32, 24, 4), (PASS, 3, 4, 30, 20), (PASS, 30, 20, 3, 4))
            self.assertEqual(given[1][1], given[2][1])

    def test_no_way_between_the_two_has_a_lower_pass(self):
        for seed in (2, 40, 500):
            ground = plain_ground(seed, 16, 24)
            for one, other in (((1, 1), (14, 22)), ((15, 0), (0, 23)), ((8, 8), (9, 20))):
                top = last((BEGIN, seed, 16, 24, 4), (PASS, *one, *other))[1]
                self.assertFalse(hang_together(ground, one, other, top - 1))
                self.assertTrue(hang_together(ground, one, other, top))

    def test_by_heights_as_they_are_now(self):
        # A wall across the world, and a gate in it that is built on.
        wall = [(DIG, 4, y, 500) for y in range(8) for count in range(10)]
        gate = [(DIG, 4, 6, -500) for count in range(10)] + [(BUILD, 4, 6, 4)]
        for calls in (wall, wall + gate):
            calls = [*calls, (PASS, 1, 1, 6, 1), (PASS, 6, 1, 4, 6), (PASS, 2, 2, 2, 7)]
            self.assertEqual(ask(*calls), plain_answers(calls))
        heights = plain_ground(0, 8, 8).heights
        self.assertEqual(last(*wall, (PASS, 1, 1, 6, 1))[1], 5000 + min(heights[4, y] for y in range(8)))

    def test_cells_of_equal_height_by_their_number(self):
        ground = plain_ground(0, 8, 8)
        block = [(x, y) for y in (2, 3, 4) for x in (2, 3, 4)]
        low = min(ground.heights.values()) - 10
        level = [call for place in block for call in digs(*place, low - ground.heights[place])]
        # They get wet in the order 27, 19, 18, 20, 26, 28, 34, 35, 36.
        asked = ((3, 3), (3, 2), (2, 2), (4, 2), (2, 3), (4, 3))
        given = ask(*level, *[(PASS, 3, 3, *place) for place in asked])
        self.assertEqual(given[-6:], [[0, low, count] for count in range(1, 7)])

    def test_told_as_water_is(self):
        for seed in (5, 6, 7):
            out = last((BEGIN, seed, 32, 32, 4), (WATER, 16, 16))
            x, y = out[-1] % 32, out[-1] // 32
            self.assertEqual(last((BEGIN, seed, 32, 32, 4), (PASS, 16, 16, x, y)), [0, out[1], len(out) - 2])

    def test_looks_at_no_piece(self):
        world = (BEGIN, 3, 32, 32, 2)
        self.assertEqual(ask(world, (PASS, 0, 0, 31, 31), (KEPT,), (STATE,))[2:], [[0, 0], [0, 32, 32, 2, 0, 0, 0]])
        given = ask(world, (PIECE, 0, 0), (PIECE, 1, 1), (PASS, 0, 0, 31, 31), (KEPT,))
        self.assertEqual(given[-1], [0, 2, 0, 0, 1, 1])

    def test_out_of_the_world_is_refused(self):
        for width, depth in SIZES:
            for place in outside(width, depth):
                given = ask((BEGIN, 3, width, depth, 4), (PASS, *place, 1, 1), (PASS, 1, 1, *place), (PASS, *place * 2))
                self.assertEqual(given[1:], [[-1]] * 3)

    def test_refused_leaves_all_as_it_was(self):
        untouched = tells_of_a_busy_world()[1]
        for place in outside(24, 16):
            refused = [(PASS, *place, 1, 1), (PASS, 1, 1, *place)]
            self.assertEqual(tells_of_a_busy_world(*refused), ([[-1]] * 2, untouched))


def hang_together(ground, one, other, most):
    seen, new = set(), {one}
    while new:
        new = {place for place in new if ground.heights[place] <= most}
        seen |= new
        new = {place for at in new for place in neighbours(ground, at)} - seen
    return other in seen


if __name__ == "__main__":
    unittest.main()
