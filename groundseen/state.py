"""The world that a line's calls work on."""

from groundseen.changes import Changes
from groundseen.grid import cell_count, place_of
from groundseen.ground import Ground
from groundseen.pieces import Pieces, made_cells
from groundseen.raws import P

LOWEST = 0
HIGHEST = 9999
FIRST_SUM = 7


# The made ground, the pieces that are kept, the changes.
class World:
    def __init__(self):
        self.begin(0, 8, 8, 4)

    def begin(self, seed, width, depth, room):
        self.ground = Ground(seed, width, depth)
        self.pieces = Pieces(self.ground, room)
        self.changes = Changes()

    def raised(self, made, x, y):
        height = made + self.changes.up_at(x, y)
        return max(LOWEST, min(HIGHEST, height))

    def height_now(self, x, y):
        return self.raised(self.ground.made_height(x, y), x, y)

    def height_of(self, number):
        place = place_of(self.ground, number)
        return self.height_now(place[0], place[1])

    # The height now of each cell by its number.
    def heights(self):
        return [self.height_of(number) for number in range(cell_count(self.ground))]

    # Height and kind as they are now, of a cell that made has.
    def cell_now(self, made, x, y):
        cell = made[(x, y)]
        built = self.changes.built_at(x, y)
        kind = cell[1] if built == 0 else built
        return [self.raised(cell[0], x, y), kind]

    # One number over all cells, which are made beside the pieces so that none is looked at.
    def sum_now(self):
        made = made_cells(self.ground, 0, 0, self.ground.width, self.ground.depth)
        total = FIRST_SUM
        for number in range(cell_count(self.ground)):
            place = place_of(self.ground, number)
            cell = self.cell_now(made, place[0], place[1])
            total = (total * 31 + cell[0] * 10 + cell[1]) % P
        return total
