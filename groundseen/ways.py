"""Ways over the ground: from cell to cell by neighbours."""

from groundseen.grid import neighbours


# Whether each cell of the row is a neighbour of the one before.
def is_way(ground, row):
    for at in range(1, len(row)):
        if row[at] not in neighbours(ground, row[at - 1]):
            return False
    return True


# The numbers of the cells one comes to from start, over none that's higher than most.
def cells_in_reach(world, start, most):
    if world.height_of(start) > most:
        return []
    found = [start]
    reached = {start: True}
    at = 0
    while at < len(found):
        here = found[at]
        at += 1
        for number in neighbours(world.ground, here):
            if number not in reached and world.height_of(number) <= most:
                reached[number] = True
                found.append(number)
    return found
