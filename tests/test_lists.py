"""The interface: one list in, one list out, nothing changed, nothing kept; and long mixed lines."""

import random
import unittest

from groundseen.worlds import answers
from tests.asking import (BEGIN, BUILD, CELL, CHANGES, DIG, FAR, FORGET, KEPT, PIECE, UNDO, WATER, as_list, parted)
from tests.plain_world import plain_answers

EVERY = [(BEGIN, 3, 16, 16, 2), (CELL, 4, 5), (PIECE, 1, 1), (FORGET, 0, 0), (KEPT,), (DIG, 4, 5, -6), (BUILD, 0, 0, 7),
         (UNDO, 4, 5), (CHANGES,), (WATER, 8, 8), (DIG, 16, 0, 1), (BEGIN, -1, 8, 8, 1), (FORGET, 0, 1)]
FAR_OFF = (-FAR, -1, 32, 500, 501, 1000, FAR)


class Interface(unittest.TestCase):
    def test_form_of_what_is_given_back(self):
        self.assertEqual(answers([4]), [2, 0, 0])
        self.assertEqual(answers([8, 4, 0, 1, 8, 8, 1, 3, 0, 0]), [1, 0, 2, 0, 0, 1, 0, 1, -4])
        self.assertEqual(answers([0, -1, 8, 8, 1]), [1, -1])

    def test_all_are_whole_numbers(self):
        given = answers(as_list(EVERY))
        self.assertIs(type(given), list)
        self.assertEqual({type(number) for number in given}, {int})

    def test_what_is_handed_in_is_not_changed(self):
        calls = as_list(EVERY)
        before = list(calls)
        answers(calls)
        self.assertEqual(calls, before)

    def test_nothing_is_kept_from_one_time_to_the_next(self):
        calls = as_list(EVERY)
        first = answers(calls)
        self.assertEqual(answers([4, 8]), [2, 0, 0, 1, 0])
        self.assertEqual(answers(calls), first)

    def test_what_is_given_back_is_new_each_time(self):
        first = answers([4, 8])
        first.append(5)
        self.assertEqual(answers([4, 8]), [2, 0, 0, 1, 0])

    def test_every_call_by_the_words(self):
        self.assertEqual(parted(answers(as_list(EVERY))), plain_answers(EVERY))


class MixedLines(unittest.TestCase):
    """Lines of up to 100 calls, drawn from a fixed start, held against the document's words."""

    def test_lines_in_small_worlds(self):
        self.hold_lines(150, (8, 16))

    def test_lines_in_all_worlds(self):
        self.hold_lines(150, (8, 16, 24, 32))

    def hold_lines(self, count, sides):
        for start in range(count):
            calls = mixed_line(random.Random(start), sides)
            with self.subTest(start=start, sides=sides):
                self.assertEqual(parted(answers(as_list(calls))), plain_answers(calls))


def mixed_line(draw, sides):
    calls = [(BEGIN, draw.randrange(30), draw.choice(sides), draw.choice(sides), draw.randint(1, 8))]
    spots = [(draw.randrange(max(sides)), draw.randrange(max(sides))) for count in range(draw.choice((6, 70)))]
    left = {"looks": 12, "water": 6}
    while len(calls) < 100:
        call = mixed_call(draw, spots, sides)
        limit = "looks" if call[0] in (CELL, PIECE) else "water" if call[0] == WATER else None
        if limit is not None:
            if not left[limit]:
                continue
            left[limit] -= 1
        calls.append(call)
    return calls


def mixed_call(draw, spots, sides):
    number = draw.choice((CELL, PIECE, FORGET, KEPT, DIG, DIG, DIG, DIG, BUILD, BUILD, UNDO, CHANGES, WATER))
    x, y = draw.choice(spots)
    if draw.random() < 0.05:
        x = draw.choice(FAR_OFF)
    if draw.random() < 0.05:
        y = draw.choice(FAR_OFF)
    if number in (KEPT, CHANGES):
        # A new world now and then, so that what comes behind it is asked too.
        if draw.random() < 0.02:
            return (BEGIN, draw.randrange(30), draw.choice(sides), draw.choice(sides + (9,)), draw.randint(0, 9))
        return (number,)
    if number in (PIECE, FORGET):
        return (number, x // 8, y // 8)
    if number == DIG:
        return (number, x, y, draw.choice((-501, -500, -1, 0, 1, 500, 501, draw.randint(-500, 500))))
    if number == BUILD:
        return (number, x, y, draw.randint(3, 10))
    return (number, x, y)


if __name__ == "__main__":
    unittest.main()
