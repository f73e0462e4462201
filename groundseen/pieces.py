"""The pieces: how one is made, and which ones are kept."""

from groundseen.grid import box_cells
from groundseen.houses import houses_over, is_covered

PIECE_SIDE = 8
ROCK_FROM = 2300
WOOD_FROM = 600
PLAIN = 0
ROCK = 1
WOOD = 2
HOUSE = 3


# A cell's made kind; houses has all that stand and cover the cell.
def made_kind(ground, houses, x, y):
    if is_covered(houses, x, y):
        return HOUSE
    if ground.made_height(x, y) >= ROCK_FROM:
        return ROCK
    if ground.wood_at(x, y) >= WOOD_FROM:
        return WOOD
    return PLAIN


# The x and y of each cell of a piece, y by y, in each x by x.
def cells_of(i, j):
    return box_cells(PIECE_SIDE * i, PIECE_SIDE * j, PIECE_SIDE, PIECE_SIDE)


# A dict from each cell of the box to its made height and its made kind.
def made_cells(ground, left, top, width, depth):
    houses = houses_over(ground, left, top, left + width - 1, top + depth - 1)
    made = {}
    for x, y in box_cells(left, top, width, depth):
        made[(x, y)] = (ground.made_height(x, y), made_kind(ground, houses, x, y))
    return made


def made_piece(ground, i, j):
    return made_cells(ground, PIECE_SIDE * i, PIECE_SIDE * j, PIECE_SIDE, PIECE_SIDE)


# The kept pieces, the one looked at last behind all others, and how many were made.
class Pieces:
    def __init__(self, ground, room):
        self.ground = ground
        self.room = room
        self.made_count = 0
        self.kept = {}

    def has_piece(self, i, j):
        across = self.ground.width // PIECE_SIDE
        down = self.ground.depth // PIECE_SIDE
        return 0 <= i < across and 0 <= j < down

    def is_kept(self, i, j):
        return (i, j) in self.kept

    # The made cells of the piece, which is kept behind all others from now on.
    def look(self, i, j):
        piece = self.kept.pop((i, j), None)
        if piece is None:
            piece = made_piece(self.ground, i, j)
            self.made_count += 1
        self.kept[(i, j)] = piece
        if len(self.kept) > self.room:
            self.kept.pop(list(self.kept)[0])
        return piece

    def forget(self, i, j):
        self.kept.pop((i, j))
