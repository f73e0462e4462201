"""Water: which cells get wet, in which order."""


def number_of(ground, x, y):
    return y * ground.width + x


def is_edge(ground, number):
    x = number % ground.width
    y = number // ground.width
    return x in (0, ground.width - 1) or y in (0, ground.depth - 1)


# A dict with the number of each cell of the world's edge.
def edge_numbers(ground):
    edge = {}
    for number in range(ground.width * ground.depth):
        if is_edge(ground, number):
            edge[number] = True
    return edge


def neighbours(ground, number):
    x = number % ground.width
    y = number // ground.width
    around = [(x, y - 1), (x - 1, y), (x + 1, y), (x, y + 1)]
    return [number_of(ground, place[0], place[1]) for place in around if ground.has_cell(place[0], place[1])]


# The cell as the shore has it: the least of these gets wet first.
def shore_cell(world, number):
    width = world.ground.width
    return (world.height_now(number % width, number // width), number)


# Height and number of each cell that gets wet, in order, till one is that asked has.
def wet_cells(world, start, asked):
    wet = []
    shore = [shore_cell(world, start)]
    reached = {start: True}
    while shore:
        lowest = min(shore)
        shore.remove(lowest)
        wet.append(lowest)
        if lowest[1] in asked:
            return wet
        for number in neighbours(world.ground, lowest[1]):
            if number not in reached:
                reached[number] = True
                shore.append(shore_cell(world, number))
    return wet


def pass_of(wet):
    return max([cell[0] for cell in wet])
