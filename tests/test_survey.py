"""Calls 15, 18 and 19, sum, state and highest: what is told of the whole world."""

import unittest

from tests.asking import (BEGIN, BUILD, CELL, CHANGES, DIG, FORGET, HIGHEST, KEPT, PIECE, SIZES, STATE, SUM, UNDO, ask,
                          digs, last, world_by_pieces)
from tests.plain_world import P, plain_answers, plain_ground

SEEDS = (0, 1, 7, 12345, 999999999, 1000000000)


class Sum(unittest.TestCase):
    def test_worlds_of_each_size(self):
        for width, depth in SIZES:
            for seed in SEEDS:
                calls = [(BEGIN, seed, width, depth, 4), (SUM,)]
                with self.subTest(seed=seed, width=width, depth=depth):
                    self.assertEqual(ask(*calls), plain_answers(calls))

    def test_from_what_the_pieces_tell(self):
        cells = world_by_pieces(21, 24, 16)
        total = 7
        for number in range(24 * 16):
            height, kind = cells[number % 24, number // 24]
            total = (total * 31 + height * 10 + kind) % P
        self.assertEqual(last((BEGIN, 21, 24, 16, 8), (SUM,)), [0, total])

    def test_by_heights_and_kinds_as_they_are_now(self):
        for seed in (3, 8):
            ground = plain_ground(seed, 32, 16)
            free = [place for place in ground.places if place not in ground.covered]
            house = sorted(ground.covered)[0]
            calls = [(BEGIN, seed, 32, 16, 4), (SUM,), (DIG, *free[0], 17), (SUM,), (BUILD, *free[-1], 9), (SUM,),
                     *digs(*house, 9999), (SUM,), *digs(*free[50], -9999), (BUILD, *free[50], 4), (SUM,)]
            given = ask(*calls)
            self.assertEqual(given, plain_answers(calls))
            sums = [answer[1] for call, answer in zip(calls, given) if call == (SUM,)]
            self.assertEqual(len(set(sums)), 5)

    def test_a_change_undone_gives_the_first_sum_again(self):
        given = ask((SUM,), (DIG, 3, 3, 9), (SUM,), (UNDO, 3, 3), (SUM,))
        self.assertEqual(given[4], given[0])
        self.assertNotEqual(given[2], given[0])

    def test_one_more_at_the_last_cell_is_10_more(self):
        given = ask((SUM,), (DIG, 7, 7, 1), (SUM,))
        self.assertEqual(given[2][1], (given[0][1] + 10) % P)

    def test_the_same_whichever_pieces_were_looked_at(self):
        world = (BEGIN, 4, 32, 32, 1)
        given = ask(world, (SUM,), (PIECE, 3, 3), (CELL, 0, 0), (SUM,), (FORGET, 0, 0), (SUM,))
        self.assertEqual(given[1], given[4])
        self.assertEqual(given[1], given[6])

    def test_looks_at_no_piece(self):
        world = (BEGIN, 4, 32, 32, 2)
        self.assertEqual(ask(world, (SUM,), (KEPT,), (STATE,))[2:], [[0, 0], [0, 32, 32, 2, 0, 0, 0]])
        given = ask(world, (PIECE, 0, 0), (PIECE, 1, 1), (SUM,), (KEPT,), (CHANGES,))
        self.assertEqual(given[-2:], [[0, 2, 0, 0, 1, 1], [0]])


class State(unittest.TestCase):
    def test_before_anything(self):
        self.assertEqual(ask((STATE,)), [[0, 8, 8, 4, 0, 0, 0]])

    def test_each_width_and_depth_and_room(self):
        for width, depth in SIZES:
            for room in range(1, 9):
                self.assertEqual(last((BEGIN, 5, width, depth, room), (STATE,)), [0, width, depth, room, 0, 0, 0])

    def test_after_pieces_went_and_cells_were_changed(self):
        given = ask((BEGIN, 5, 32, 16, 2), (PIECE, 0, 0), (STATE,), (PIECE, 1, 0), (PIECE, 3, 1), (STATE,),
                    (FORGET, 1, 0), (STATE,), (CELL, 0, 0), (CELL, 31, 15), (STATE,), (DIG, 3, 3, 5), (DIG, 4, 3, 5),
                    (STATE,), (DIG, 3, 3, 5), (STATE,), (UNDO, 4, 3), (DIG, 3, 3, -10), (STATE,))
        told = [answer for answer in given if answer[:4] == [0, 32, 16, 2]]
        self.assertEqual([answer[4:] for answer in told],
                         [[1, 1, 0], [2, 3, 0], [1, 3, 0], [2, 4, 0], [2, 4, 2], [2, 4, 2], [2, 4, 0]])

    def test_60_changed_cells(self):
        places = plain_ground(5, 16, 16).places[:61]
        given = ask((BEGIN, 5, 16, 16, 2), *[(DIG, *place, 1) for place in places], (STATE,))
        self.assertEqual(given[-2:], [[-5], [0, 16, 16, 2, 0, 0, 60]])

    def test_a_built_cell_is_a_changed_one(self):
        ground = plain_ground(5, 16, 16)
        place = next(place for place in ground.places if place not in ground.covered)
        given = last((BEGIN, 5, 16, 16, 2), (BUILD, *place, 4), (DIG, *place, 3), (DIG, *place, -3), (STATE,))
        self.assertEqual(given, [0, 16, 16, 2, 0, 0, 1])

    def test_a_new_world_begins_anew(self):
        given = last((PIECE, 0, 0), (DIG, 3, 3, 1), (BEGIN, 1, 24, 8, 7), (STATE,))
        self.assertEqual(given, [0, 24, 8, 7, 0, 0, 0])
        given = last((PIECE, 0, 0), (DIG, 3, 3, 1), (BEGIN, -1, 24, 8, 7), (STATE,))
        self.assertEqual(given, [0, 8, 8, 4, 1, 1, 1])

    def test_looks_at_no_piece(self):
        self.assertEqual(ask((STATE,), (STATE,), (KEPT,))[1:], [[0, 8, 8, 4, 0, 0, 0], [0, 0]])


class Highest(unittest.TestCase):
    def test_worlds_of_each_size(self):
        for width, depth in SIZES:
            for seed in SEEDS:
                calls = [(BEGIN, seed, width, depth, 4), (HIGHEST,)]
                with self.subTest(seed=seed, width=width, depth=depth):
                    self.assertEqual(ask(*calls), plain_answers(calls))

    def test_by_heights_as_they_are_now(self):
        heights = plain_ground(7, 16, 24).heights
        low, high = min(heights.values()), max(heights.values())
        for place in ((0, 0), (15, 0), (0, 23), (15, 23), (9, 14)):
            given = last((BEGIN, 7, 16, 24, 4), *digs(*place, 4000), (HIGHEST,))
            self.assertEqual(given, [0, *place, heights[place] + 4000, low])
            given = last((BEGIN, 7, 16, 24, 4), *digs(*place, -9999), (HIGHEST,))
            self.assertEqual(given[3:], [high, 0])

    def test_what_is_built_makes_no_cell_higher(self):
        ground = plain_ground(7, 16, 24)
        place = next(place for place in ground.places if place not in ground.covered)
        given = ask((BEGIN, 7, 16, 24, 4), (HIGHEST,), (BUILD, *place, 9), (HIGHEST,))
        self.assertEqual(given[1], given[3])

    def test_of_several_equally_high_the_one_with_the_least_number(self):
        heights = plain_ground(0, 8, 8).heights
        # The one with the lesser x has the greater number.
        for one, other in (((5, 2), (2, 5)), ((2, 4), (6, 4)), ((7, 0), (0, 1))):
            raised = [call for place in (other, one) for call in digs(*place, 5000 - heights[place])]
            low = min(heights[place] for place in heights if place not in (one, other))
            self.assertEqual(last(*raised, (HIGHEST,)), [0, *one, 5000, low])

    def test_held_at_9999_cells_are_equally_high(self):
        heights = plain_ground(0, 8, 8).heights
        low = min(heights.values())
        given = last(*digs(6, 6, 9999), *digs(5, 6, 9999 - heights[5, 6]), *digs(4, 7, 9999), (HIGHEST,))
        self.assertEqual(given, [0, 5, 6, 9999, low])

    def test_where_all_are_equally_high(self):
        # In this world 6 cells are 1676 high as they are made, and one dig is enough for each of the others.
        ground = plain_ground(640, 8, 8)
        level = [call for place in ground.places for call in digs(*place, 1676 - ground.heights[place])]
        self.assertEqual(len(level), 58)
        calls = [(BEGIN, 640, 8, 8, 4), *level, (HIGHEST,), (STATE,)]
        given = ask(*calls)
        self.assertEqual(given[-2:], [[0, 0, 0, 1676, 1676], [0, 8, 8, 4, 0, 0, 58]])
        calls = [(BEGIN, 640, 8, 8, 4), *level, (DIG, 5, 5, 1), (HIGHEST,), (DIG, 5, 5, -2), (HIGHEST,)]
        given = ask(*calls)
        self.assertEqual([given[-3], given[-1]], [[0, 5, 5, 1677, 1676], [0, 0, 0, 1676, 1675]])

    def test_looks_at_no_piece(self):
        world = (BEGIN, 4, 32, 32, 2)
        self.assertEqual(ask(world, (HIGHEST,), (KEPT,), (STATE,))[2:], [[0, 0], [0, 32, 32, 2, 0, 0, 0]])
        given = ask(world, (PIECE, 0, 0), (PIECE, 1, 1), (HIGHEST,), (KEPT,), (CHANGES,))
        self.assertEqual(given[-2:], [[0, 2, 0, 0, 1, 1], [0]])


if __name__ == "__main__":
    unittest.main()
