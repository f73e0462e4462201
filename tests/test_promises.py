"""What the document promises over the whole program."""

import random
import unittest

from tests.asking import (BEGIN, BUILD, CELL, CHANGES, DIG, FORGET, HIGHEST, HOUSE, HOUSES, KEPT, LEVEL, PASS, PIECE,
                          RAW, SPRINGS, STATE, SUM, UNDO, WATER, WAY, ask, in_lines, last, pieces_of, world_by_pieces)
from tests.plain_world import is_edge, neighbours, plain_ground, touch

OTHERS = [(KEPT,), (CHANGES,), (WATER, 12, 8), (SPRINGS, 1, 1), (HOUSES, 0, 0), (HOUSE, 9, 9), (PASS, 0, 0, 30, 15),
          (RAW, 5, 9, 9), (SUM,), (WAY, [40, 41, 42]), (LEVEL, 8, 8, 2000), (STATE,), (HIGHEST,), (WAY, [])]


class ACellIsTheSame(unittest.TestCase):
    def test_a_cell_is_the_same_whichever_pieces_came_before(self):
        for seed in (4, 12345):
            ground = plain_ground(seed, 32, 16)
            for x, y in ((7, 7), (8, 8), (31, 0), (16, 15)):
                wanted = [0, ground.heights[x, y], ground.kinds[x, y]]
                ways = (
                    [],
                    [(PIECE, 3, 1), (PIECE, 0, 0), (PIECE, 2, 0)],
                    [(PIECE, x // 8, y // 8), (FORGET, x // 8, y // 8)],
                    [(PIECE, x // 8, y // 8), (PIECE, 1, 1), (PIECE, 0, 1), (PIECE, 3, 0), (PIECE, 2, 1)],
                    [(CELL, 15, 7), (CELL, 16, 8), (FORGET, 1, 0), (CELL, 15, 7)],
                )
                for way in ways:
                    for room in (1, 8):
                        self.assertEqual(last((BEGIN, seed, 32, 16, room), *way, (CELL, x, y)), wanted)

    def test_changes_outlive_their_piece(self):
        ground = plain_ground(4, 16, 8)
        given = last((BEGIN, 4, 16, 8, 1), (CELL, 2, 2), (DIG, 2, 2, 44), (FORGET, 0, 0), (CELL, 8, 0), (CELL, 2, 2))
        self.assertEqual(given, [0, ground.heights[2, 2] + 44, ground.kinds[2, 2]])

    def test_a_cell_is_the_same_whichever_calls_came_before(self):
        for seed in (4, 12345):
            ground = plain_ground(seed, 32, 16)
            for x, y in ((7, 7), (8, 8), (31, 0), (16, 15)):
                before = [(CELL, x, y), *OTHERS, (FORGET, x // 8, y // 8)]
                given = ask((BEGIN, seed, 32, 16, 2), *before, (CELL, x, y))
                self.assertEqual(given[-1], [0, ground.heights[x, y], ground.kinds[x, y]])
                self.assertEqual(given[-1], given[1])

    def test_a_changed_cell_is_the_same_whichever_pieces_came_before(self):
        ground = plain_ground(4, 32, 16)
        x, y = next(place for place in ground.places if place not in ground.covered and place > (8, 8))
        changed = [(BEGIN, 4, 32, 16, 1), (DIG, x, y, -31), (BUILD, x, y, 6)]
        for pieces in ([], [(0, 0), (3, 1)], [(x // 8, y // 8), (2, 0)], [(2, 0), (x // 8, y // 8)]):
            given = last(*changed, *[(PIECE, *piece) for piece in pieces], (CELL, x, y))
            self.assertEqual(given, [0, ground.heights[x, y] - 31, 6])

    def test_pieces_in_any_order(self):
        draw = random.Random(5)
        for seed in (4, 12345):
            wanted = dict(zip(pieces_of(24, 32), in_lines((BEGIN, seed, 24, 32, 8), pieces_asked(24, 32), 12)))
            for room in (1, 2, 8):
                order = [draw.choice(pieces_of(24, 32)) for count in range(12)]
                given = ask((BEGIN, seed, 24, 32, room), *[(PIECE, *piece) for piece in order])
                self.assertEqual(given[1:], [wanted[piece] for piece in order])

    def test_what_looks_at_no_piece_tells_the_same_whichever_were_looked_at(self):
        looked = [(PIECE, 0, 0), (PIECE, 3, 1), (CELL, 9, 9), (FORGET, 3, 1), (PIECE, 2, 0)]
        told = [call for call in OTHERS if call not in ((KEPT,), (STATE,))]
        begin = (BEGIN, 12345, 32, 16, 2)
        self.assertEqual(ask(begin, *looked, *told)[1 + len(looked):], ask(begin, *told)[1:])

    def test_kept_and_state_tell_the_same_before_and_after_all_that_do_not_look(self):
        begin = [(BEGIN, 12345, 32, 16, 2), (PIECE, 0, 0), (PIECE, 3, 1), (CELL, 9, 9), (DIG, 4, 4, 5)]
        for call in OTHERS:
            given = ask(*begin, (KEPT,), (STATE,), call, (KEPT,), (STATE,))
            self.assertEqual(given[-5:-3], given[-2:], call)

    def test_changing_looks_at_no_piece(self):
        begin = [(BEGIN, 12345, 32, 16, 2), (PIECE, 0, 0), (PIECE, 3, 1)]
        free = next(place for place in plain_ground(12345, 32, 16).places if place[0] > 8
                    and place not in plain_ground(12345, 32, 16).covered)
        for call in ((DIG, 9, 9, 5), (BUILD, *free, 5), (UNDO, 9, 9), (DIG, 32, 9, 5)):
            self.assertEqual(last(*begin, call, (KEPT,)), last(*begin, (KEPT,)))


def pieces_asked(width, depth):
    return [(PIECE, *piece) for piece in pieces_of(width, depth)]


class HousesNeverTouch(unittest.TestCase):
    def test_no_two_that_are_told_are_too_near(self):
        told = 0
        for seed in list(range(30)) + [12345, 999999999, 1000000000]:
            asked = [(HOUSES, *piece) for piece in pieces_of(32, 32)]
            given = in_lines((BEGIN, seed, 32, 32, 4), asked, 12)
            houses = [tuple(answer[at:at + 4]) for answer in given for at in range(1, len(answer), 4)]
            told += len(houses)
            for one in houses:
                self.assertFalse([other for other in houses if other != one and too_near(one, other)])
        self.assertGreater(told, 300)

    def test_just_the_cells_of_those_that_are_told_have_a_house(self):
        for seed in (0, 2, 12345):
            given = in_lines((BEGIN, seed, 32, 24, 4), [(HOUSES, *piece) for piece in pieces_of(32, 24)], 12)
            houses = [answer[at:at + 4] for answer in given for at in range(1, len(answer), 4)]
            covered = {(x + k, y + m) for x, y, width, depth in houses for k in range(width) for m in range(depth)}
            found = world_by_pieces(seed, 32, 24)
            self.assertEqual(covered, {place for place in found if found[place][1] == 3})

    def test_houses_never_touch(self):
        # Cells of kind 3 that hang together must be one full box, with sides of 2 to 4.
        houses = 0
        for seed in range(40):
            found = world_by_pieces(seed, 32, 32)
            left = {place for place in found if found[place][1] == 3}
            while left:
                block = hanging_together(left)
                left -= block
                xs, ys = {x for x, y in block}, {y for x, y in block}
                self.assertEqual(block, {(x, y) for x in xs for y in ys})
                self.assertTrue({len(xs), len(ys)} <= {2, 3, 4})
                houses += 1
        self.assertGreater(houses, 100)

    def test_the_plain_ground_has_rivals_that_do_not_stand(self):
        fallen = 0
        for seed in range(10):
            ground = plain_ground(seed, 32, 32)
            fallen += len(ground.candidates) - len(ground.houses)
            for one in ground.houses:
                self.assertFalse(any(touch(one, other) for other in ground.houses if other != one))
        self.assertGreater(fallen, 20)


def too_near(one, other):
    """By the document's own formula, both ways round."""
    return all(one[k] <= other[k] + other[k + 2] and other[k] <= one[k] + one[k + 2] for k in (0, 1))


def hanging_together(cells):
    block, new = set(), [min(cells)]
    while new:
        x, y = new.pop()
        block.add((x, y))
        around = {(x + k, y + m) for k in (-1, 0, 1) for m in (-1, 0, 1)}
        new.extend((around & cells) - block)
    return block


class NoLowerWayOut(unittest.TestCase):
    def test_of_all_cells_of_a_world(self):
        for seed, width, depth in ((3, 8, 8), (40, 16, 8), (12345, 16, 16)):
            ground = plain_ground(seed, width, depth)
            lowest = lowest_passes(ground, ground.heights)
            given = in_lines((BEGIN, seed, width, depth, 4), [(WATER, *place) for place in ground.places], 6)
            with self.subTest(seed=seed, width=width, depth=depth):
                self.assertEqual([answer[1] for answer in given], [lowest[place] for place in ground.places])

    def test_of_cells_in_great_worlds_that_were_changed(self):
        draw = random.Random(8)
        for seed in (2, 500, 1000000000):
            ground = plain_ground(seed, 32, 32)
            heights = dict(ground.heights)
            changed = []
            for x, y in draw.sample(ground.places, 60):
                up = draw.choice((-500, -200, 200, 500))
                changed.append((DIG, x, y, up))
                heights[x, y] = max(0, heights[x, y] + up)
            lowest = lowest_passes(ground, heights)
            asked = draw.sample(ground.places, 6)
            given = ask((BEGIN, seed, 32, 32, 4), *changed, *[(WATER, *place) for place in asked])
            self.assertEqual([answer[1] for answer in given[61:]], [lowest[place] for place in asked])

    def test_a_way_among_the_wet_cells_has_that_pass(self):
        # Out of what water tells: the way from the first wet cell to the last, asked by way.
        for seed in (5, 6, 7):
            ground = plain_ground(seed, 32, 32)
            wet = last((BEGIN, seed, 32, 32, 4), (WATER, 16, 16))
            way = way_within(ground, [(number % 32, number // 32) for number in wet[2:]])
            numbers = [y * 32 + x for x, y in way]
            self.assertLessEqual(len(numbers), 200)
            self.assertEqual(last((BEGIN, seed, 32, 32, 4), (WAY, numbers)), [0, 1, wet[1], 1])


def lowest_passes(ground, heights):
    """The lowest pass of all ways out, of each cell: mended till no neighbour offers a lower one."""
    lowest = {place: heights[place] if is_edge(ground, place) else 10000 for place in ground.places}
    mended = True
    while mended:
        mended = False
        for place in ground.places:
            offered = max(heights[place], min(lowest[other] for other in neighbours(ground, place)))
            if offered < lowest[place]:
                lowest[place] = offered
                mended = True
    return lowest


def way_within(ground, wet):
    """A way from the first of these cells to the last that keeps to them."""
    before = {wet[0]: None}
    new = [wet[0]]
    for place in new:
        for other in neighbours(ground, place):
            if other in wet and other not in before:
                before[other] = place
                new.append(other)
    way = [wet[-1]]
    while before[way[-1]] is not None:
        way.append(before[way[-1]])
    return way[::-1]


if __name__ == "__main__":
    unittest.main()
