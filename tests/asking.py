"""How the tests hand calls in: one tuple a call, one list an answer."""

from groundseen.worlds import answers

BEGIN, CELL, PIECE, FORGET, KEPT, DIG, BUILD, UNDO, CHANGES, WATER = range(10)
FAR = 1000000000000000000


def as_list(calls):
    return [number for call in calls for number in call]


def parted(given):
    """The answers one by one, out of the one list that has a count before each."""
    parts = []
    at = 0
    while at < len(given):
        count = given[at]
        if count < 1 or at + 1 + count > len(given):
            raise AssertionError(f"count {count} at {at} of {len(given)}")
        parts.append(given[at + 1:at + 1 + count])
        at += 1 + count
    return parts


def ask(*calls):
    return parted(answers(as_list(calls)))


def last(*calls):
    return ask(*calls)[-1]


def digs(x, y, up):
    """Calls of dig that together change the cell by so much."""
    calls = []
    while up:
        step = max(-500, min(500, up))
        calls.append((DIG, x, y, step))
        up -= step
    return calls
