"""The interface: one list in, one list out, nothing changed, nothing kept; and long mixed lines."""

import random
import unittest

from groundseen.worlds import answers
from tests.asking import (BEGIN, BUILD, CELL, CHANGES, DIG, FAR, FORGET, HIGHEST, HOUSE, HOUSES, KEPT, LEVEL, PASS,
                          PIECE, RAW, SPRINGS, STATE, SUM, UNDO, WATER, WAY, as_list, parted)
from tests.plain_world import plain_answers

EVERY = [(BEGIN, 3, 16, 16, 2), (CELL, 4, 5), (PIECE, 1, 1), (FORGET, 0, 0), (KEPT,), (DIG, 4, 5, -6), (BUILD, 0, 0, 7),
         (UNDO, 4, 5), (CHANGES,), (WATER, 8, 8), (SPRINGS, 1, 0), (HOUSES, 0, 1), (HOUSE, 3, 3), (PASS, 0, 0, 9, 9),
         (RAW, 9, 100, 0), (SUM,), (WAY, [0, 1, 17]), (LEVEL, 8, 8, 1500), (STATE,), (HIGHEST,)]
REFUSED = [(DIG, 16, 0, 1), (BEGIN, -1, 8, 8, 1), (FORGET, 0, 1), (WAY, []), (WAY, [0, 256]), (RAW, 0, 1, 1),
           (LEVEL, 1, 1, -1), (PASS, 0, 0, 0, 16), (SPRINGS, 2, 0), (HOUSES, 0, -1), (HOUSE, FAR, 0)]
SLOW = (WATER, PASS, SUM, LEVEL, HIGHEST)
LOOKS = (CELL, PIECE, HOUSES)
FAR_OFF = (-FAR, -1, 32, 500, 501, 1000, FAR)


class Interface(unittest.TestCase):
    def test_form_of_what_is_given_back(self):
        self.assertEqual(answers([4]), [2, 0, 0])
        self.assertEqual(answers([8, 4, 0, 1, 8, 8, 1, 3, 0, 0]), [1, 0, 2, 0, 0, 1, 0, 1, -4])
        self.assertEqual(answers([0, -1, 8, 8, 1]), [1, -1])
        self.assertEqual(answers([18]), [7, 0, 8, 8, 4, 0, 0, 0])

    def test_how_a_way_is_handed_in(self):
        self.assertEqual(answers([16, 0]), [1, -1])
        self.assertEqual(answers([16, 0, 4, 16, 2, 0, 5, 4]), [1, -1, 2, 0, 0, 2, 0, 0, 2, 0, 0])
        self.assertEqual(answers([16, 3, 16, 16, 16, 4]), [2, 0, 0, 2, 0, 0])
        self.assertEqual(answers([16, 1, 0])[:3], [4, 0, 1])

    def test_all_are_whole_numbers(self):
        given = answers(as_list(EVERY + REFUSED))
        self.assertIs(type(given), list)
        self.assertEqual({type(number) for number in given}, {int})

    def test_what_is_handed_in_is_not_changed(self):
        calls = as_list(EVERY + REFUSED)
        before = list(calls)
        answers(calls)
        self.assertEqual(calls, before)

    def test_what_is_handed_in_is_not_changed_for_a_while_either(self):
        class Watched(list):
            def refuse(self, *told):
                raise AssertionError("what is handed in was changed")

            __setitem__ = __delitem__ = __iadd__ = __imul__ = refuse
            append = extend = insert = pop = remove = clear = sort = reverse = refuse

        answers(Watched(as_list(EVERY + REFUSED)))

    def test_nothing_is_kept_from_one_time_to_the_next(self):
        calls = as_list(EVERY + REFUSED)
        first = answers(calls)
        self.assertEqual(answers([4, 8]), [2, 0, 0, 1, 0])
        self.assertEqual(answers(calls), first)

    def test_what_is_given_back_is_new_each_time(self):
        first = answers([4, 8])
        first.append(5)
        self.assertEqual(answers([4, 8]), [2, 0, 0, 1, 0])

    def test_every_call_by_the_words(self):
        self.assertEqual([call[0] for call in EVERY], list(range(20)))
        self.assertEqual(parted(answers(as_list(EVERY + REFUSED))), plain_answers(EVERY + REFUSED))
        self.assertTrue(all(len(answer) == 1 and answer[0] < 0 for answer in plain_answers(EVERY + REFUSED)[20:]))

    def test_100_calls_in_nearly_17000_numbers(self):
        there = [y * 32 + x for y in range(3) for x in (range(32) if y % 2 == 0 else range(31, -1, -1))]
        way = (there + there[-2::-1])[:168]
        calls = [(BEGIN, 5, 32, 32, 1)] + [(WAY, way)] * 98 + [(WAY, there[:1] * 200)]
        self.assertEqual(len(calls), 100)
        self.assertTrue(16800 <= len(as_list(calls)) <= 17000)
        self.assertEqual(parted(answers(as_list(calls))), plain_answers(calls))


class MixedLines(unittest.TestCase):
    """Lines of up to 100 calls, drawn from a fixed start, held against the document's words."""

    def test_lines_in_small_worlds(self):
        self.hold_lines(150, (8, 16))

    def test_lines_in_all_worlds(self):
        self.hold_lines(150, (8, 16, 24, 32))

    def test_lines_have_all_kinds_of_calls(self):
        calls = mixed_line(random.Random(0), (8, 16, 24, 32))
        self.assertEqual(len(calls), 100)
        drawn = {call[0] for start in range(5) for call in mixed_line(random.Random(start), (8, 16))}
        self.assertEqual(drawn, set(range(20)))

    def hold_lines(self, count, sides):
        for start in range(count):
            calls = mixed_line(random.Random(start), sides)
            handed = as_list(calls)
            before = list(handed)
            given = answers(handed)
            with self.subTest(start=start, sides=sides):
                self.assertEqual(parted(given), plain_answers(calls))
                self.assertEqual(handed, before)
                self.assertEqual(answers(handed), given)


def mixed_line(draw, sides):
    calls = [(BEGIN, draw.randrange(30), draw.choice(sides), draw.choice(sides), draw.randint(1, 8))]
    spots = [(draw.randrange(max(sides)), draw.randrange(max(sides))) for count in range(draw.choice((6, 70)))]
    left = {SLOW: 6, LOOKS: 12}
    while len(calls) < 100:
        call = mixed_call(draw, spots, sides)
        limit = next((group for group in left if call[0] in group), None)
        if limit is not None:
            if not left[limit]:
                continue
            left[limit] -= 1
        calls.append(call)
    return calls


def mixed_call(draw, spots, sides):
    number = draw.choice((CELL, PIECE, FORGET, KEPT, DIG, DIG, DIG, DIG, BUILD, BUILD, UNDO, CHANGES, *range(9, 20)))
    if number in (KEPT, CHANGES, SUM, STATE, HIGHEST):
        # A new world now and then, so that what comes behind it is asked too.
        if draw.random() < 0.02:
            return (BEGIN, draw.randrange(30), draw.choice(sides), draw.choice(sides + (9,)), draw.randint(0, 9))
        return (number,)
    if number == WAY:
        return (number, mixed_way(draw, draw.choice(sides)))
    x, y = mixed_spot(draw, spots)
    if number in (PIECE, FORGET, SPRINGS, HOUSES):
        return (number, x // 8, y // 8)
    if number == DIG:
        return (number, x, y, draw.choice((-501, -500, -1, 0, 1, 500, 501, draw.randint(-500, 500))))
    if number == BUILD:
        return (number, x, y, draw.randint(3, 10))
    if number == PASS:
        return (number, x, y, *mixed_spot(draw, spots))
    if number == RAW:
        return (number, draw.randint(0, 10), draw.choice((-1, 0, 50, 100, 101)), draw.choice((-1, 0, 50, 100, 101)))
    if number == LEVEL:
        return (number, x, y, draw.choice((-1, 0, 9999, 10000, draw.randint(500, 3000), draw.randint(500, 3000))))
    return (number, x, y)


def mixed_spot(draw, spots):
    x, y = draw.choice(spots)
    if draw.random() < 0.05:
        x = draw.choice(FAR_OFF)
    if draw.random() < 0.05:
        y = draw.choice(FAR_OFF)
    return x, y


def mixed_way(draw, width):
    """Steps to neighbours as they are in a world so wide, most of them; now and then one that is none."""
    row = [draw.randrange(64)]
    for count in range(draw.choice((0, 1, 3, 10, 40))):
        row.append(abs(row[-1] + draw.choice((1, -1, width, -width, width))))
    if draw.random() < 0.1:
        row[draw.randrange(len(row))] = draw.choice((-1, 64, 1024, -FAR, FAR))
    return row if draw.random() < 0.95 else []


if __name__ == "__main__":
    unittest.main()
