"""The raw numbers, from which all of a world's ground is made."""

P = 2147483647


def stirred(h, v):
    a = (h * 16807 + (v + 1) * 48271) % P
    return (a * a + 12345) % P


def raw_number(seed, purpose, x, y):
    by_purpose = stirred(seed % P, purpose)
    by_cell = stirred(stirred(by_purpose, x), y)
    return stirred(by_cell, 0)
