"""Water: which cells get wet, in which order."""

from groundseen.grid import neighbours


# The cell as the shore has it: the least of these gets wet first.
def shore_cell(world, number):
    return (world.height_of(number), number)


# Height and number of each cell that gets wet, in order, till one is that asked has.
def wet_cells(world, start, asked):
    wet = []
    shore = [shore_cell(world, start)]
    reached = {start: True}
    while shore:
        lowest = min(shore)
        shore.remove(lowest)
        wet.append(lowest)
        if lowest[1] in asked:
            return wet
        for number in neighbours(world.ground, lowest[1]):
            if number not in reached:
                reached[number] = True
                shore.append(shore_cell(world, number))
    return wet


def pass_of(wet):
    return max([cell[0] for cell in wet])
