"""The made ground: what a seed alone gives, whatever was changed or looked at."""

from groundseen.raws import raw_number

# Of each layer: its purpose, how wide it is, how high.
HEIGHT_LAYERS = ((1, 16, 2000), (2, 8, 1000), (3, 4, 500))
WOOD_PURPOSE = 4
WOOD_WIDE = 4
WOOD_HIGH = 1000


# A seed and the world's size, and the made layers at each cell.
class Ground:
    def __init__(self, seed, width, depth):
        self.seed = seed
        self.width = width
        self.depth = depth
        # All cells around a corner ask for it, so each one is worked out once.
        self.corners = {}

    def has_cell(self, x, y):
        return 0 <= x < self.width and 0 <= y < self.depth

    def raw(self, purpose, x, y):
        return raw_number(self.seed, purpose, x, y)

    def corner(self, purpose, high, i, j):
        place = (purpose, i, j)
        if place not in self.corners:
            self.corners[place] = self.raw(purpose, i, j) % (high + 1)
        return self.corners[place]

    def layer_at(self, purpose, wide, high, x, y):
        i = x // wide
        j = y // wide
        u = x % wide
        v = y % wide
        total = self.corner(purpose, high, i, j) * (wide - u) * (wide - v)
        total += self.corner(purpose, high, i + 1, j) * u * (wide - v)
        total += self.corner(purpose, high, i, j + 1) * (wide - u) * v
        total += self.corner(purpose, high, i + 1, j + 1) * u * v
        return total // (wide * wide)

    def made_height(self, x, y):
        height = 0
        for purpose, wide, high in HEIGHT_LAYERS:
            height += self.layer_at(purpose, wide, high, x, y)
        return height

    def wood_at(self, x, y):
        return self.layer_at(WOOD_PURPOSE, WOOD_WIDE, WOOD_HIGH, x, y)
