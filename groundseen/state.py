"""The world that a line's calls work on."""

from groundseen.changes import Changes
from groundseen.ground import Ground
from groundseen.pieces import Pieces

LOWEST = 0
HIGHEST = 9999


# The made ground, the pieces that are kept, the changes.
class World:
    def __init__(self):
        self.begin(0, 8, 8, 4)

    def begin(self, seed, width, depth, room):
        self.ground = Ground(seed, width, depth)
        self.pieces = Pieces(self.ground, room)
        self.changes = Changes()

    def raised(self, made, x, y):
        height = made + self.changes.up_at(x, y)
        return max(LOWEST, min(HIGHEST, height))

    def height_now(self, x, y):
        return self.raised(self.ground.made_height(x, y), x, y)

    # Height and kind as they are now, of a cell of a piece that was looked at.
    def cell_now(self, piece, x, y):
        made = piece[(x, y)]
        built = self.changes.built_at(x, y)
        kind = made[1] if built == 0 else built
        return [self.raised(made[0], x, y), kind]
