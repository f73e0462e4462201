"""The calls on a world, and how a list of them is answered."""

from groundseen.houses import houses_over, is_covered
from groundseen.pieces import PIECE_SIDE, cells_of
from groundseen.state import World
from groundseen.water import edge_numbers, number_of, pass_of, wet_cells

NOT_IN_RANGE = -1
CANNOT_BE = -3
THERE_IS_NONE = -4
NO_PLACE = -5

GREATEST_SEED = 1000000000
SIDES = (8, 16, 24, 32)
MOST_KEPT = 8
MOST_DUG = 500
GREATEST_CHANGE = 9999
LEAST_BUILT = 4
GREATEST_BUILT = 9


def begin_answer(world, numbers):
    seed = numbers[0]
    width = numbers[1]
    depth = numbers[2]
    room = numbers[3]
    if not 0 <= seed <= GREATEST_SEED or not 1 <= room <= MOST_KEPT:
        return [NOT_IN_RANGE]
    if width not in SIDES or depth not in SIDES:
        return [NOT_IN_RANGE]
    world.begin(seed, width, depth, room)
    return [0]


def cell_answer(world, numbers):
    x = numbers[0]
    y = numbers[1]
    if not world.ground.has_cell(x, y):
        return [NOT_IN_RANGE]
    piece = world.pieces.look(x // PIECE_SIDE, y // PIECE_SIDE)
    return [0] + world.cell_now(piece, x, y)


def piece_answer(world, numbers):
    i = numbers[0]
    j = numbers[1]
    if not world.pieces.has_piece(i, j):
        return [NOT_IN_RANGE]
    piece = world.pieces.look(i, j)
    answer = [0]
    for x, y in cells_of(i, j):
        answer.extend(world.cell_now(piece, x, y))
    return answer


def forget_answer(world, numbers):
    i = numbers[0]
    j = numbers[1]
    if not world.pieces.has_piece(i, j):
        return [NOT_IN_RANGE]
    if not world.pieces.is_kept(i, j):
        return [THERE_IS_NONE]
    world.pieces.forget(i, j)
    return [0, len(world.pieces.kept)]


def kept_answer(world, numbers):
    answer = [0, world.pieces.made_count]
    for i, j in world.pieces.kept:
        answer.extend([i, j])
    return answer


def dig_answer(world, numbers):
    x = numbers[0]
    y = numbers[1]
    up = numbers[2]
    if not world.ground.has_cell(x, y) or not -MOST_DUG <= up <= MOST_DUG:
        return [NOT_IN_RANGE]
    changed_up = world.changes.up_at(x, y) + up
    if abs(changed_up) > GREATEST_CHANGE:
        return [CANNOT_BE]
    if not world.changes.has_place(x, y):
        return [NO_PLACE]
    world.changes.put(x, y, changed_up, world.changes.built_at(x, y))
    return [0, world.height_now(x, y)]


def build_answer(world, numbers):
    x = numbers[0]
    y = numbers[1]
    kind = numbers[2]
    if not world.ground.has_cell(x, y) or not LEAST_BUILT <= kind <= GREATEST_BUILT:
        return [NOT_IN_RANGE]
    if is_covered(houses_over(world.ground, x, y, x, y), x, y):
        return [CANNOT_BE]
    if not world.changes.has_place(x, y):
        return [NO_PLACE]
    world.changes.put(x, y, world.changes.up_at(x, y), kind)
    return [0]


def undo_answer(world, numbers):
    x = numbers[0]
    y = numbers[1]
    if not world.ground.has_cell(x, y):
        return [NOT_IN_RANGE]
    if not world.changes.is_changed(x, y):
        return [THERE_IS_NONE]
    world.changes.put(x, y, 0, 0)
    return [0, world.height_now(x, y)]


def changes_answer(world, numbers):
    answer = [0]
    for place, change in world.changes.cells.items():
        answer.extend([place[0], place[1], change[0], change[1]])
    return answer


def water_answer(world, numbers):
    x = numbers[0]
    y = numbers[1]
    if not world.ground.has_cell(x, y):
        return [NOT_IN_RANGE]
    wet = wet_cells(world, number_of(world.ground, x, y), edge_numbers(world.ground))
    return [0, pass_of(wet)] + [cell[1] for cell in wet]


# By a call's number: what answers it, and how many numbers it has.
CALLS = (
    (begin_answer, 4),
    (cell_answer, 2),
    (piece_answer, 2),
    (forget_answer, 2),
    (kept_answer, 0),
    (dig_answer, 3),
    (build_answer, 3),
    (undo_answer, 2),
    (changes_answer, 0),
    (water_answer, 2),
)


# For each call, in order: how many numbers are answered, then these.
def answers(calls):
    world = World()
    given = []
    at = 0
    while at < len(calls):
        replier = CALLS[calls[at]][0]
        first = at + 1
        at = first + CALLS[calls[at]][1]
        answer = replier(world, calls[first:at])
        given.append(len(answer))
        given.extend(answer)
    return given
