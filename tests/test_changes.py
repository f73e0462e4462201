"""Calls 5 to 8, dig, build, undo and changes: what players change is kept beside."""

import unittest

from tests.asking import BEGIN, BUILD, CELL, CHANGES, DIG, FAR, KEPT, UNDO, ask, digs, last
from tests.plain_world import plain_ground

SEED = 7
WORLD = (BEGIN, SEED, 32, 32, 4)
GROUND = plain_ground(SEED, 32, 32)
FREE = [place for place in GROUND.places if place not in GROUND.covered]
COVERED = sorted(GROUND.covered)
OUTSIDE = ((-1, 3), (3, -1), (32, 3), (3, 32), (-FAR, 3), (FAR, 3), (3, -FAR), (3, FAR))
SIXTY = [(DIG, x, y, 1) for x, y in FREE[:60]]
AFTER = FREE[60]


class Dig(unittest.TestCase):
    def test_answers_the_height_now(self):
        height = GROUND.heights[9, 9]
        given = ask(WORLD, (DIG, 9, 9, 12), (DIG, 9, 9, -500), (DIG, 9, 9, 500), (CHANGES,), (CELL, 9, 9))
        self.assertEqual(given[1:4], [[0, height + 12], [0, height - 488], [0, height + 12]])
        self.assertEqual(given[4:], [[0, 9, 9, 12, 0], [0, height + 12, GROUND.kinds[9, 9]]])

    def test_middle_edges_and_corners(self):
        for place in ((0, 0), (31, 0), (0, 31), (31, 31), (16, 0), (15, 16)):
            self.assertEqual(ask(WORLD, (DIG, *place, -3), (CHANGES,))[1:],
                             [[0, GROUND.heights[place] - 3], [0, *place, -3, 0]])

    def test_other_cells_stay(self):
        given = ask(WORLD, (DIG, 9, 9, 400), (CELL, 9, 10), (CELL, 10, 9))
        self.assertEqual([answer[1] for answer in given[2:]], [GROUND.heights[9, 10], GROUND.heights[10, 9]])

    def test_height_is_held_at_0(self):
        height = GROUND.heights[9, 9]
        given = last(WORLD, *digs(9, 9, -height), (CELL, 9, 9))
        self.assertEqual(given[1], 0)
        given = ask(WORLD, *digs(9, 9, -height - 1), (CELL, 9, 9), (CHANGES,), (DIG, 9, 9, 2))
        self.assertEqual(given[-3][1], 0)
        self.assertEqual(given[-2:], [[0, 9, 9, -height - 1, 0], [0, 1]])

    def test_height_is_held_at_9999(self):
        up = 9999 - GROUND.heights[9, 9]
        given = ask(WORLD, *digs(9, 9, up), (CELL, 9, 9))
        self.assertEqual([given[-2], given[-1][1]], [[0, 9999], 9999])
        given = ask(WORLD, *digs(9, 9, up + 1), (CELL, 9, 9), (CHANGES,), (DIG, 9, 9, -2))
        self.assertEqual(given[-4], [0, 9999])
        self.assertEqual(given[-3][1], 9999)
        self.assertEqual(given[-2:], [[0, 9, 9, up + 1, 0], [0, 9998]])

    def test_a_change_of_just_9999_and_one_beyond(self):
        for sign, held in ((1, 9999), (-1, 0)):
            given = ask(WORLD, *digs(9, 9, sign * 9999), (CHANGES,), (DIG, 9, 9, sign), (CHANGES,), (CELL, 9, 9),
                        (DIG, 9, 9, 0), (DIG, 9, 9, sign * 500), (DIG, 9, 9, -sign), (DIG, 9, 9, sign), (CHANGES,))
            full = [0, 9, 9, sign * 9999, 0]
            self.assertEqual(given[-10:-5], [[0, held], full, [-3], full, [0, held, GROUND.kinds[9, 9]]])
            self.assertEqual(given[-5:], [[0, held], [-3], [0, held], [0, held], full])

    def test_beyond_9999_by_more_than_one(self):
        for sign in (1, -1):
            given = ask(WORLD, *digs(9, 9, sign * 9600), (DIG, 9, 9, sign * 400), (CHANGES,), (DIG, 9, 9, sign * 399))
            self.assertEqual(given[-3:-1], [[-3], [0, 9, 9, sign * 9600, 0]])
            self.assertEqual(given[-1], [0, 9999 if sign > 0 else 0])

    def test_a_change_that_becomes_0_is_none(self):
        given = ask(WORLD, (DIG, 9, 9, 5), (DIG, 8, 8, 5), (DIG, 9, 9, -5), (CHANGES,), (UNDO, 9, 9))
        self.assertEqual(given[3:], [[0, GROUND.heights[9, 9]], [0, 8, 8, 5, 0], [-4]])

    def test_a_change_that_becomes_0_with_something_built_stays(self):
        x, y = FREE[40]
        given = ask(WORLD, (BUILD, x, y, 6), (DIG, x, y, 5), (DIG, x, y, -5), (CHANGES,), (UNDO, x, y))
        self.assertEqual(given[4:], [[0, x, y, 0, 6], [0, GROUND.heights[x, y]]])

    def test_a_dig_of_0_of_an_unchanged_cell_changes_nothing(self):
        self.assertEqual(ask(WORLD, (DIG, 9, 9, 0), (CHANGES,))[1:], [[0, GROUND.heights[9, 9]], [0]])

    def test_a_dig_of_0_of_a_changed_cell_makes_it_the_last(self):
        given = ask(WORLD, (DIG, 1, 1, 4), (DIG, 2, 2, 5), (DIG, 1, 1, 0), (CHANGES,))
        self.assertEqual(given[3:], [[0, GROUND.heights[1, 1] + 4], [0, 2, 2, 5, 0, 1, 1, 4, 0]])

    def test_a_dig_keeps_what_is_built(self):
        x, y = FREE[40]
        given = ask(WORLD, (BUILD, x, y, 8), (DIG, x, y, -20), (CHANGES,), (CELL, x, y))
        self.assertEqual(given[3:], [[0, x, y, -20, 8], [0, GROUND.heights[x, y] - 20, 8]])

    def test_a_house_may_be_dug(self):
        x, y = COVERED[0]
        self.assertEqual(last(WORLD, (DIG, x, y, 20), (CELL, x, y)), [0, GROUND.heights[x, y] + 20, 3])

    def test_numbers_out_of_range_are_refused(self):
        calls = [(DIG, x, y, 5) for x, y in OUTSIDE] + [(DIG, 3, 3, up) for up in (-501, 501, -FAR, FAR)]
        for call in calls:
            with self.subTest(call=call):
                self.assertEqual(ask(WORLD, call, (CHANGES,), (KEPT,))[1:], [[-1], [0], [0, 0]])

    def test_61st_cell_has_no_place(self):
        given = ask(WORLD, *SIXTY, (DIG, *AFTER, 1), (CHANGES,), (CELL, *AFTER))
        self.assertEqual(given[60], [0, GROUND.heights[FREE[59]] + 1])
        self.assertEqual(given[61], [-5])
        self.assertEqual(given[62], [0] + [number for x, y in FREE[:60] for number in (x, y, 1, 0)])
        self.assertEqual(given[63], [0, GROUND.heights[AFTER], GROUND.kinds[AFTER]])

    def test_a_dig_of_0_of_a_61st_cell_is_refused_too(self):
        self.assertEqual(last(WORLD, *SIXTY, (DIG, *AFTER, 0)), [-5])

    def test_with_60_a_changed_cell_may_be_dug(self):
        given = ask(WORLD, *SIXTY, (DIG, *FREE[0], 7), (CHANGES,))
        self.assertEqual(given[61], [0, GROUND.heights[FREE[0]] + 8])
        self.assertEqual(given[62][-4:], [*FREE[0], 8, 0])
        self.assertEqual(len(given[62]), 241)

    def test_a_place_that_becomes_free_is_taken(self):
        for free in ((UNDO, *FREE[5]), (DIG, *FREE[5], -1)):
            given = ask(WORLD, *SIXTY, free, (DIG, *AFTER, 1), (DIG, *FREE[5], 1), (CHANGES,))
            self.assertEqual(given[62:64], [[0, GROUND.heights[AFTER] + 1], [-5]])
            self.assertEqual(given[64][-4:], [*AFTER, 1, 0])

    def test_the_nearest_to_0_of_several_refusals(self):
        # No place and a number out of range; beyond 9999 and a number out of range.
        self.assertEqual(last(WORLD, *SIXTY, (DIG, *AFTER, 501)), [-1])
        self.assertEqual(last(WORLD, *SIXTY, (DIG, 32, 31, 1)), [-1])
        self.assertEqual(last(WORLD, *digs(9, 9, 9999), (DIG, 9, 9, 501)), [-1])

    def test_60_changed_and_beyond_9999(self):
        given = ask(WORLD, *SIXTY, *digs(*FREE[3], 9998), (DIG, *FREE[3], 1), (DIG, *FREE[3], -1))
        self.assertEqual(given[-2:], [[-3], [0, 9999]])


class Build(unittest.TestCase):
    def test_each_kind(self):
        x, y = FREE[100]
        for kind in range(4, 10):
            given = ask(WORLD, (BUILD, x, y, kind), (CELL, x, y), (CHANGES,))
            self.assertEqual(given[1:], [[0], [0, GROUND.heights[x, y], kind], [0, x, y, 0, kind]])

    def test_in_the_place_of_what_was(self):
        x, y = FREE[100]
        given = ask(WORLD, (DIG, x, y, 9), (BUILD, x, y, 4), (DIG, 0, 0, 1), (BUILD, x, y, 5), (CHANGES,), (CELL, x, y))
        self.assertEqual(given[4:], [[0], [0, 0, 0, 1, 0, x, y, 9, 5], [0, GROUND.heights[x, y] + 9, 5]])

    def test_the_same_again_makes_it_the_last(self):
        given = last(WORLD, (BUILD, *FREE[0], 4), (BUILD, *FREE[1], 4), (BUILD, *FREE[0], 4), (CHANGES,))
        self.assertEqual(given, [0, *FREE[1], 0, 4, *FREE[0], 0, 4])

    def test_on_rock_and_wood_and_plain_ground(self):
        for kind in (0, 1, 2):
            for seed in range(100):
                ground = plain_ground(seed, 32, 32)
                places = [place for place in ground.places if ground.kinds[place] == kind]
                if places:
                    break
            self.assertEqual(ask((BEGIN, seed, 32, 32, 1), (BUILD, *places[0], 7), (CELL, *places[0]))[1:],
                             [[0], [0, ground.heights[places[0]], 7]])

    def test_just_the_cells_of_houses_that_stand_are_refused(self):
        for seed in (7, 8, 12345):
            ground = plain_ground(seed, 32, 32)
            for start in range(0, 1024, 50):
                places = ground.places[start:start + 50]
                given = ask((BEGIN, seed, 32, 32, 1), *[(BUILD, *place, 4) for place in places])
                wanted = [[-3] if place in ground.covered else [0] for place in places]
                self.assertEqual(given[1:], wanted)

    def test_a_house_refused_leaves_all_as_it_was(self):
        x, y = COVERED[0]
        given = ask(WORLD, (CELL, 0, 0), (DIG, x, y, 3), (DIG, 1, 1, 1), (BUILD, x, y, 4), (CHANGES,), (KEPT,),
                    (CELL, x, y))
        self.assertEqual(given[4:7], [[-3], [0, x, y, 3, 0, 1, 1, 1, 0], [0, 1, 0, 0]])
        self.assertEqual(given[7], [0, GROUND.heights[x, y] + 3, 3])

    def test_numbers_out_of_range_are_refused(self):
        x, y = FREE[100]
        calls = [(BUILD, *place, 5) for place in OUTSIDE]
        calls += [(BUILD, x, y, kind) for kind in (3, 10, 0, -4, -FAR, FAR)]
        for call in calls:
            with self.subTest(call=call):
                self.assertEqual(ask(WORLD, call, (CHANGES,), (KEPT,))[1:], [[-1], [0], [0, 0]])

    def test_61st_cell_has_no_place(self):
        given = ask(WORLD, *SIXTY, (BUILD, *AFTER, 4), (BUILD, *FREE[9], 4), (CHANGES,), (CELL, *AFTER))
        self.assertEqual(given[61:63], [[-5], [0]])
        self.assertEqual(given[63][-4:], [*FREE[9], 1, 4])
        self.assertEqual(len(given[63]), 241)
        self.assertEqual(given[64], [0, GROUND.heights[AFTER], GROUND.kinds[AFTER]])

    def test_60_built_cells_and_a_61st(self):
        given = ask(WORLD, *[(BUILD, *place, 9) for place in FREE[:61]])
        self.assertEqual(given[60:], [[0], [-5]])

    def test_the_nearest_to_0_of_several_refusals(self):
        x, y = COVERED[-1]
        self.assertNotIn((x, y), FREE[:60])
        self.assertEqual(last(WORLD, *SIXTY, (BUILD, x, y, 4)), [-3])
        self.assertEqual(last(WORLD, (BUILD, x, y, 3)), [-1])
        self.assertEqual(last(WORLD, *SIXTY, (BUILD, x, y, 10)), [-1])
        self.assertEqual(last(WORLD, *SIXTY, (BUILD, *AFTER, 10)), [-1])


class Undo(unittest.TestCase):
    def test_the_change_goes(self):
        x, y = FREE[100]
        given = ask(WORLD, (DIG, x, y, -40), (BUILD, x, y, 6), (UNDO, x, y), (CHANGES,), (CELL, x, y), (UNDO, x, y))
        height = GROUND.heights[x, y]
        self.assertEqual(given[3:], [[0, height], [0], [0, height, GROUND.kinds[x, y]], [-4]])

    def test_the_others_stay_in_order(self):
        given = last(WORLD, *SIXTY[:4], (UNDO, *FREE[1]), (CHANGES,))
        self.assertEqual(given, [0, *FREE[0], 1, 0, *FREE[2], 1, 0, *FREE[3], 1, 0])

    def test_undone_and_changed_again_begins_at_0(self):
        given = last(WORLD, (DIG, 9, 9, 40), (DIG, 8, 8, 1), (UNDO, 9, 9), (DIG, 9, 9, 2), (CHANGES,))
        self.assertEqual(given, [0, 8, 8, 1, 0, 9, 9, 2, 0])

    def test_where_there_is_none_it_is_refused(self):
        given = ask(WORLD, (DIG, 9, 8, 4), (UNDO, 9, 9), (UNDO, 8, 9), (CHANGES,), (KEPT,))
        self.assertEqual(given[2:], [[-4], [-4], [0, 9, 8, 4, 0], [0, 0]])

    def test_cells_out_of_the_world_are_refused_with_the_nearest_to_0(self):
        # Such a cell has no change either: both -1 and -4 are due.
        for place in OUTSIDE:
            given = ask(WORLD, (DIG, 9, 8, 4), (UNDO, *place), (CHANGES,), (CELL, 9, 8))
            self.assertEqual(given[2:], [[-1], [0, 9, 8, 4, 0], [0, GROUND.heights[9, 8] + 4, GROUND.kinds[9, 8]]])


class Changes(unittest.TestCase):
    def test_the_one_changed_last_is_behind_all_others(self):
        one, two, three = FREE[10], FREE[20], FREE[30]
        given = last(WORLD, (DIG, *one, 5), (BUILD, *two, 4), (DIG, *three, -6), (DIG, *one, 1), (BUILD, *three, 9),
                     (CHANGES,))
        self.assertEqual(given, [0, *two, 0, 4, *one, 6, 0, *three, -6, 9])

    def test_refused_calls_do_not_count_as_changing(self):
        one, two = FREE[10], FREE[20]
        given = last(WORLD, (DIG, *one, 5), (DIG, *two, 6), (DIG, *one, 501), (BUILD, *one, 3), (CHANGES,))
        self.assertEqual(given, [0, *one, 5, 0, *two, 6, 0])

    def test_looking_does_not_count_as_changing(self):
        one, two = FREE[10], FREE[20]
        given = last(WORLD, (DIG, *one, 5), (DIG, *two, 6), (CELL, *one), (CHANGES,), (CHANGES,))
        self.assertEqual(given, [0, *one, 5, 0, *two, 6, 0])

    def test_60_of_them(self):
        given = last(WORLD, *SIXTY, (CHANGES,))
        self.assertEqual(given, [0] + [number for x, y in FREE[:60] for number in (x, y, 1, 0)])


if __name__ == "__main__":
    unittest.main()
