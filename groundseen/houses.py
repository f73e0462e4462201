"""The houses: where candidates are, and which of them stand."""

from groundseen.grid import box_cells

CANDIDATE_PURPOSE = 5
WIDTH_PURPOSE = 6
DEPTH_PURPOSE = 7
RANK_PURPOSE = 8
ONE_IN = 12
LEAST_SIDE = 2
GREATEST_SIDE = 4
FLAT_WITHIN = 300


# A candidate's corner and sides, and the raw number by which it goes ahead.
class House:
    def __init__(self, x, y, width, depth, rank):
        self.x = x
        self.y = y
        self.width = width
        self.depth = depth
        self.rank = rank

    def covers(self, x, y):
        return self.x <= x < self.x + self.width and self.y <= y < self.y + self.depth


def side(raw):
    return LEAST_SIDE + raw % (GREATEST_SIDE - LEAST_SIDE + 1)


def is_flat(ground, left, top, width, depth):
    heights = [ground.made_height(place[0], place[1]) for place in box_cells(left, top, width, depth)]
    return max(heights) - min(heights) <= FLAT_WITHIN


# The candidate with its corner at this cell, or None.
def candidate_at(ground, x, y):
    if ground.raw(CANDIDATE_PURPOSE, x, y) % ONE_IN != 0:
        return None
    width = side(ground.raw(WIDTH_PURPOSE, x, y))
    depth = side(ground.raw(DEPTH_PURPOSE, x, y))
    if x + width > ground.width or y + depth > ground.depth:
        return None
    if not is_flat(ground, x, y, width, depth):
        return None
    return House(x, y, width, depth, ground.raw(RANK_PURPOSE, x, y))


# The candidates with corners in this box, y by y, in each x by x.
def candidates_within(ground, left, top, right, bottom):
    found = []
    for y in range(max(top, 0), min(bottom + 1, ground.depth)):
        for x in range(max(left, 0), min(right + 1, ground.width)):
            candidate = candidate_at(ground, x, y)
            if candidate is not None:
                found.append(candidate)
    return found


def too_near(one, other):
    by_x = one.x <= other.x + other.width and other.x <= one.x + one.width
    by_y = one.y <= other.y + other.depth and other.y <= one.y + one.depth
    return by_x and by_y


def goes_ahead(one, other):
    return (one.rank, -one.y, -one.x) > (other.rank, -other.y, -other.x)


def stands(house, candidates):
    for other in candidates:
        # The house itself may be among them: it doesn't go ahead of itself.
        if too_near(house, other) and goes_ahead(other, house):
            return False
    return True


# The houses that stand with corners in this box, y by y, in each x by x.
def houses_within(ground, left, top, right, bottom):
    # A candidate that is too near has its corner no further off than the greatest side.
    reach = GREATEST_SIDE
    around = candidates_within(ground, left - reach, top - reach, right + reach, bottom + reach)
    found = []
    for house in around:
        if left <= house.x <= right and top <= house.y <= bottom and stands(house, around):
            found.append(house)
    return found


# The houses that stand and may cover cells of this box: all that do are among them.
def houses_over(ground, left, top, right, bottom):
    return houses_within(ground, left - GREATEST_SIDE + 1, top - GREATEST_SIDE + 1, right, bottom)


def is_covered(houses, x, y):
    return any([house.covers(x, y) for house in houses])


# The house that stands and covers this cell, or None; no two that stand have a cell in common.
def house_at(ground, x, y):
    for house in houses_over(ground, x, y, x, y):
        if house.covers(x, y):
            return house
    return None
