"""How the tests hand calls in: one tuple a call, one list an answer."""

from groundseen.worlds import answers

BEGIN, CELL, PIECE, FORGET, KEPT, DIG, BUILD, UNDO, CHANGES, WATER = range(10)
SPRINGS, HOUSES, HOUSE, PASS, RAW, SUM, WAY, LEVEL, STATE, HIGHEST = range(10, 20)
FAR = 1000000000000000000
SIZES = [(width, depth) for width in (8, 16, 24, 32) for depth in (8, 16, 24, 32)]


def as_list(calls):
    """The calls one behind another; a row, which is a list within a call, has how many numbers it has before it."""
    handed = []
    for call in calls:
        for part in call:
            handed += [len(part), *part] if isinstance(part, list) else [part]
    return handed


def parted(given):
    """The answers one by one, out of the one list that has a count before each."""
    parts = []
    at = 0
    while at < len(given):
        count = given[at]
        if count < 1 or at + 1 + count > len(given):
            raise AssertionError(f"count {count} at {at} of {len(given)}")
        parts.append(given[at + 1:at + 1 + count])
        at += 1 + count
    return parts


def ask(*calls):
    return parted(answers(as_list(calls)))


def last(*calls):
    return ask(*calls)[-1]


def digs(x, y, up):
    """Calls of dig that together change the cell by so much."""
    calls = []
    while up:
        step = max(-500, min(500, up))
        calls.append((DIG, x, y, step))
        up -= step
    return calls


def outside(width, depth):
    """Cells (or pieces) that a world so wide and deep has not: just outside of it and far off, each way."""
    wrong = [(x, 0) for x in (-FAR, -1, width, FAR)] + [(0, y) for y in (-FAR, -1, depth, FAR)]
    return wrong + [(width - 1, depth), (width, depth - 1), (-1, -1)]


def pieces_of(width, depth):
    return [(i, j) for j in range(depth // 8) for i in range(width // 8)]


def in_lines(begin, calls, most):
    """The answers to the calls, asked in several lines of one world, at most so many of them a line."""
    given = []
    for start in range(0, len(calls), most):
        given += ask(begin, *calls[start:start + most])[1:]
    return given


def world_by_pieces(seed, width, depth):
    """Height and kind of each cell by (x, y), asked piece by piece."""
    found = {}
    places = pieces_of(width, depth)
    given = in_lines((BEGIN, seed, width, depth, 2), [(PIECE, i, j) for i, j in places], 12)
    for (i, j), answer in zip(places, given):
        for k in range(64):
            found[8 * i + k % 8, 8 * j + k // 8] = answer[1 + 2 * k:3 + 2 * k]
    return found


BUSY = [(BEGIN, 9, 24, 16, 2), (CELL, 23, 15), (PIECE, 1, 0), (CELL, 0, 0), (DIG, 4, 4, 10), (BUILD, 4, 4, 7),
        (DIG, 20, 9, -300)]
TELLING = [(KEPT,), (CHANGES,), (STATE,), (SUM,), (HIGHEST,), (WATER, 12, 8), (CELL, 23, 15), (CELL, 4, 4), (KEPT,)]


def tells_of_a_busy_world(*calls):
    """What the calls are answered in a world 24 wide and 16 deep that was looked at and changed, and what's told then.

    At most 3 of them may be water, pass, sum, level or highest, and at most 7 cell, piece or houses.
    """
    given = ask(*BUSY, *calls, *TELLING)
    return given[len(BUSY):len(BUSY) + len(calls)], given[len(BUSY) + len(calls):]
