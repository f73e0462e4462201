"""The world as a grid of cells: their order, their numbers, which are neighbours, which are the edge."""


# The x and y of each cell of a box, y by y, in each x by x.
def box_cells(left, top, width, depth):
    places = []
    for y in range(top, top + depth):
        for x in range(left, left + width):
            places.append((x, y))
    return places


def number_of(ground, x, y):
    return y * ground.width + x


def place_of(ground, number):
    return (number % ground.width, number // ground.width)


def cell_count(ground):
    return ground.width * ground.depth


def is_edge(ground, number):
    place = place_of(ground, number)
    return place[0] in (0, ground.width - 1) or place[1] in (0, ground.depth - 1)


# A dict with the number of each cell of the world's edge.
def edge_numbers(ground):
    edge = {}
    for number in range(cell_count(ground)):
        if is_edge(ground, number):
            edge[number] = True
    return edge


def neighbours(ground, number):
    place = place_of(ground, number)
    x = place[0]
    y = place[1]
    around = [(x, y - 1), (x - 1, y), (x + 1, y), (x, y + 1)]
    return [number_of(ground, other[0], other[1]) for other in around if ground.has_cell(other[0], other[1])]
