"""The springs, which come from the made ground alone."""

SPRING_PURPOSE = 9
ONE_IN = 24
SPRING_FROM = 1400


def is_spring(ground, x, y):
    return ground.raw(SPRING_PURPOSE, x, y) % ONE_IN == 0 and ground.made_height(x, y) >= SPRING_FROM
