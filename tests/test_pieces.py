"""Calls 3 and 4, forget and kept: which pieces are kept, and what looking at one does."""

import unittest

from tests.asking import BEGIN, BUILD, CELL, CHANGES, DIG, FAR, FORGET, KEPT, PIECE, UNDO, WATER, ask, last

WIDE = (BEGIN, 21, 32, 24, 8)
ALL = [(i, j) for j in range(3) for i in range(4)]


def looks(places):
    return [(PIECE, i, j) for i, j in places]


def flat(places):
    return [number for place in places for number in place]


class Kept(unittest.TestCase):
    def test_order_is_that_of_looking(self):
        self.assertEqual(last(WIDE, (PIECE, 2, 1), (CELL, 31, 23), (PIECE, 0, 0), (KEPT,)), [0, 3, 2, 1, 3, 2, 0, 0])

    def test_kept_1(self):
        given = ask((BEGIN, 21, 32, 24, 1), (PIECE, 0, 0), (KEPT,), (PIECE, 1, 0), (KEPT,), (PIECE, 0, 0), (KEPT,))
        self.assertEqual([given[2], given[4], given[6]], [[0, 1, 0, 0], [0, 2, 1, 0], [0, 3, 0, 0]])

    def test_kept_1_looked_at_again(self):
        self.assertEqual(last((BEGIN, 21, 8, 8, 1), (PIECE, 0, 0), (CELL, 7, 7), (CELL, 0, 0), (KEPT,)), [0, 1, 0, 0])

    def test_kept_8_and_more_pieces(self):
        given = last(WIDE, *looks(ALL[:8]), (KEPT,))
        self.assertEqual(given, [0, 8] + flat(ALL[:8]))
        given = last(WIDE, *looks(ALL[:9]), (KEPT,))
        self.assertEqual(given, [0, 9] + flat(ALL[1:9]))
        given = last(WIDE, *looks(ALL), (KEPT,))
        self.assertEqual(given, [0, 12] + flat(ALL[4:]))

    def test_each_room_between(self):
        for room in range(1, 9):
            given = last((BEGIN, 21, 32, 24, room), *looks(ALL), (KEPT,))
            self.assertEqual(given, [0, 12] + flat(ALL[-room:]))

    def test_4_at_a_lines_beginning_counts_for_that_world_alone(self):
        self.assertEqual(last((BEGIN, 1, 16, 32, 6), *looks([(i, j) for j in range(4) for i in (0, 1)]), (KEPT,)),
                         [0, 8, 0, 1, 1, 1, 0, 2, 1, 2, 0, 3, 1, 3])

    def test_looking_again_puts_behind_all_others_and_makes_nothing(self):
        places = [(0, 0), (1, 0), (2, 0)]
        self.assertEqual(last(WIDE, *looks(places), (PIECE, 0, 0), (KEPT,)), [0, 3, 1, 0, 2, 0, 0, 0])
        self.assertEqual(last(WIDE, *looks(places), (CELL, 8, 7), (KEPT,)), [0, 3, 0, 0, 2, 0, 1, 0])
        self.assertEqual(last(WIDE, *looks(places), (PIECE, 2, 0), (KEPT,)), [0, 3, 0, 0, 1, 0, 2, 0])

    def test_looked_at_again_it_is_not_the_first_to_go(self):
        given = last((BEGIN, 21, 32, 24, 2), (PIECE, 0, 0), (PIECE, 1, 0), (PIECE, 0, 0), (PIECE, 2, 0), (KEPT,))
        self.assertEqual(given, [0, 3, 0, 0, 2, 0])

    def test_a_piece_that_went_is_made_again(self):
        given = ask((BEGIN, 21, 32, 24, 1), (PIECE, 0, 0), (PIECE, 1, 0), (PIECE, 0, 0), (KEPT,))
        self.assertEqual(given[3], given[1])
        self.assertEqual(given[4], [0, 3, 0, 0])

    def test_a_cell_is_in_its_piece(self):
        for x, y, i, j in ((0, 0, 0, 0), (7, 7, 0, 0), (8, 7, 1, 0), (7, 8, 0, 1), (31, 23, 3, 2), (16, 15, 2, 1)):
            self.assertEqual(last(WIDE, (CELL, x, y), (KEPT,)), [0, 1, i, j])

    def test_only_cell_and_piece_look(self):
        others = [(DIG, 9, 9, 5), (BUILD, 20, 9, 4), (WATER, 20, 12), (UNDO, 9, 9), (CHANGES,), (KEPT,), (FORGET, 1, 1)]
        self.assertEqual(last(WIDE, *others, (KEPT,)), [0, 0])
        self.assertEqual(last(WIDE, (PIECE, 1, 1), (PIECE, 0, 0), *others[:-1], (KEPT,)), [0, 2, 1, 1, 0, 0])


class Forget(unittest.TestCase):
    def test_answers_how_many_are_kept(self):
        given = ask(WIDE, (PIECE, 0, 0), (PIECE, 1, 2), (PIECE, 3, 1), (FORGET, 1, 2), (FORGET, 0, 0), (FORGET, 3, 1))
        self.assertEqual(given[4:], [[0, 2], [0, 1], [0, 0]])

    def test_the_others_stay_in_order(self):
        given = last(WIDE, *looks(ALL[:4]), (FORGET, 1, 0), (KEPT,))
        self.assertEqual(given, [0, 4, 0, 0, 2, 0, 3, 0])

    def test_forgotten_and_made_again(self):
        given = ask(WIDE, (PIECE, 2, 1), (PIECE, 0, 0), (FORGET, 2, 1), (PIECE, 2, 1), (KEPT,))
        self.assertEqual(given[4], given[1])
        self.assertEqual(given[5], [0, 3, 0, 0, 2, 1])

    def test_makes_room(self):
        given = last((BEGIN, 21, 32, 24, 2), (PIECE, 0, 0), (PIECE, 1, 0), (FORGET, 1, 0), (PIECE, 2, 0), (KEPT,))
        self.assertEqual(given, [0, 3, 0, 0, 2, 0])

    def test_what_is_not_kept_is_refused(self):
        given = ask(WIDE, (FORGET, 0, 0), (PIECE, 0, 0), (FORGET, 0, 1), (FORGET, 0, 0), (FORGET, 0, 0), (KEPT,))
        self.assertEqual([given[1]] + given[3:], [[-4], [-4], [0, 0], [-4], [0, 1]])

    def test_what_went_is_refused(self):
        given = ask((BEGIN, 21, 32, 24, 1), (PIECE, 0, 0), (PIECE, 1, 0), (FORGET, 0, 0), (KEPT,))
        self.assertEqual(given[3:], [[-4], [0, 2, 1, 0]])

    def test_pieces_the_world_has_not_are_refused_with_the_nearest_to_0(self):
        # Such a piece isn't kept either: both -1 and -4 are due.
        for i, j in ((-1, 0), (0, -1), (4, 0), (0, 3), (-FAR, 0), (FAR, 0), (0, -FAR), (0, FAR)):
            self.assertEqual(ask(WIDE, (PIECE, 3, 2), (FORGET, i, j), (KEPT,))[2:], [[-1], [0, 1, 3, 2]])


if __name__ == "__main__":
    unittest.main()
