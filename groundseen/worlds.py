"""The calls on a world, and how a list of them is answered."""

from groundseen.grid import cell_count, edge_numbers, is_edge, number_of, place_of
from groundseen.houses import house_at, houses_within
from groundseen.pieces import PIECE_SIDE, cells_of
from groundseen.springs import is_spring
from groundseen.state import HIGHEST, LOWEST, World
from groundseen.water import pass_of, wet_cells
from groundseen.ways import cells_in_reach, is_way

NOT_IN_RANGE = -1
CANNOT_BE = -3
THERE_IS_NONE = -4
NO_PLACE = -5

GREATEST_SEED = 1000000000
SIDES = (8, 16, 24, 32)
MOST_KEPT = 8
MOST_DUG = 500
GREATEST_CHANGE = 9999
LEAST_BUILT = 4
GREATEST_BUILT = 9
GREATEST_PURPOSE = 9
GREATEST_RAW_PLACE = 100
LONGEST_WAY = 200
WAY = 16


def begin_answer(world, numbers):
    seed = numbers[0]
    width = numbers[1]
    depth = numbers[2]
    room = numbers[3]
    if not 0 <= seed <= GREATEST_SEED or not 1 <= room <= MOST_KEPT:
        return [NOT_IN_RANGE]
    if width not in SIDES or depth not in SIDES:
        return [NOT_IN_RANGE]
    world.begin(seed, width, depth, room)
    return [0]


def cell_answer(world, numbers):
    x = numbers[0]
    y = numbers[1]
    if not world.ground.has_cell(x, y):
        return [NOT_IN_RANGE]
    piece = world.pieces.look(x // PIECE_SIDE, y // PIECE_SIDE)
    return [0] + world.cell_now(piece, x, y)


def piece_answer(world, numbers):
    i = numbers[0]
    j = numbers[1]
    if not world.pieces.has_piece(i, j):
        return [NOT_IN_RANGE]
    piece = world.pieces.look(i, j)
    answer = [0]
    for x, y in cells_of(i, j):
        answer.extend(world.cell_now(piece, x, y))
    return answer


def forget_answer(world, numbers):
    i = numbers[0]
    j = numbers[1]
    if not world.pieces.has_piece(i, j):
        return [NOT_IN_RANGE]
    if not world.pieces.is_kept(i, j):
        return [THERE_IS_NONE]
    world.pieces.forget(i, j)
    return [0, len(world.pieces.kept)]


def kept_answer(world, numbers):
    answer = [0, world.pieces.made_count]
    for i, j in world.pieces.kept:
        answer.extend([i, j])
    return answer


def dig_answer(world, numbers):
    x = numbers[0]
    y = numbers[1]
    up = numbers[2]
    if not world.ground.has_cell(x, y) or not -MOST_DUG <= up <= MOST_DUG:
        return [NOT_IN_RANGE]
    changed_up = world.changes.up_at(x, y) + up
    if abs(changed_up) > GREATEST_CHANGE:
        return [CANNOT_BE]
    if not world.changes.has_place(x, y):
        return [NO_PLACE]
    world.changes.put(x, y, changed_up, world.changes.built_at(x, y))
    return [0, world.height_now(x, y)]


def build_answer(world, numbers):
    x = numbers[0]
    y = numbers[1]
    kind = numbers[2]
    if not world.ground.has_cell(x, y) or not LEAST_BUILT <= kind <= GREATEST_BUILT:
        return [NOT_IN_RANGE]
    if house_at(world.ground, x, y) is not None:
        return [CANNOT_BE]
    if not world.changes.has_place(x, y):
        return [NO_PLACE]
    world.changes.put(x, y, world.changes.up_at(x, y), kind)
    return [0]


def undo_answer(world, numbers):
    x = numbers[0]
    y = numbers[1]
    if not world.ground.has_cell(x, y):
        return [NOT_IN_RANGE]
    if not world.changes.is_changed(x, y):
        return [THERE_IS_NONE]
    world.changes.put(x, y, 0, 0)
    return [0, world.height_now(x, y)]


def changes_answer(world, numbers):
    answer = [0]
    for place, change in world.changes.cells.items():
        answer.extend([place[0], place[1], change[0], change[1]])
    return answer


def water_answer(world, numbers):
    x = numbers[0]
    y = numbers[1]
    if not world.ground.has_cell(x, y):
        return [NOT_IN_RANGE]
    wet = wet_cells(world, number_of(world.ground, x, y), edge_numbers(world.ground))
    return [0, pass_of(wet)] + [cell[1] for cell in wet]


def springs_answer(world, numbers):
    i = numbers[0]
    j = numbers[1]
    if not world.pieces.has_piece(i, j):
        return [NOT_IN_RANGE]
    answer = [0]
    for x, y in cells_of(i, j):
        if is_spring(world.ground, x, y):
            answer.extend([x, y])
    return answer


def houses_answer(world, numbers):
    i = numbers[0]
    j = numbers[1]
    if not world.pieces.has_piece(i, j):
        return [NOT_IN_RANGE]
    left = PIECE_SIDE * i
    top = PIECE_SIDE * j
    answer = [0]
    for house in houses_within(world.ground, left, top, left + PIECE_SIDE - 1, top + PIECE_SIDE - 1):
        answer.extend([house.x, house.y, house.width, house.depth])
    return answer


def house_answer(world, numbers):
    x = numbers[0]
    y = numbers[1]
    if not world.ground.has_cell(x, y):
        return [NOT_IN_RANGE]
    house = house_at(world.ground, x, y)
    if house is None:
        return [THERE_IS_NONE]
    return [0, house.x, house.y, house.width, house.depth]


def pass_answer(world, numbers):
    if not world.ground.has_cell(numbers[0], numbers[1]) or not world.ground.has_cell(numbers[2], numbers[3]):
        return [NOT_IN_RANGE]
    start = number_of(world.ground, numbers[0], numbers[1])
    end = number_of(world.ground, numbers[2], numbers[3])
    wet = wet_cells(world, start, {end: True})
    return [0, pass_of(wet), len(wet)]


def raw_answer(world, numbers):
    purpose = numbers[0]
    x = numbers[1]
    y = numbers[2]
    if not 1 <= purpose <= GREATEST_PURPOSE:
        return [NOT_IN_RANGE]
    if not 0 <= x <= GREATEST_RAW_PLACE or not 0 <= y <= GREATEST_RAW_PLACE:
        return [NOT_IN_RANGE]
    return [0, world.ground.raw(purpose, x, y)]


def sum_answer(world, numbers):
    return [0, world.sum_now()]


def way_answer(world, row):
    if not 1 <= len(row) <= LONGEST_WAY:
        return [NOT_IN_RANGE]
    if min(row) < 0 or max(row) >= cell_count(world.ground):
        return [NOT_IN_RANGE]
    if not is_way(world.ground, row):
        return [0, 0]
    greatest = max([world.height_of(number) for number in row])
    return [0, 1, greatest, 1 if is_edge(world.ground, row[-1]) else 0]


def level_answer(world, numbers):
    x = numbers[0]
    y = numbers[1]
    most = numbers[2]
    if not world.ground.has_cell(x, y) or not LOWEST <= most <= HIGHEST:
        return [NOT_IN_RANGE]
    found = cells_in_reach(world, number_of(world.ground, x, y), most)
    at_edge = any([is_edge(world.ground, number) for number in found])
    return [0, len(found), 1 if at_edge else 0]


def state_answer(world, numbers):
    ground = world.ground
    pieces = world.pieces
    return [0, ground.width, ground.depth, pieces.room, len(pieces.kept), pieces.made_count, len(world.changes.cells)]


def highest_answer(world, numbers):
    heights = world.heights()
    greatest = max(heights)
    # The first of equal ones is the one with the least number.
    place = place_of(world.ground, heights.index(greatest))
    return [0, place[0], place[1], greatest, min(heights)]


# By a call's number: what answers it, and how many numbers it has (way has a row in their place).
CALLS = (
    (begin_answer, 4),
    (cell_answer, 2),
    (piece_answer, 2),
    (forget_answer, 2),
    (kept_answer, 0),
    (dig_answer, 3),
    (build_answer, 3),
    (undo_answer, 2),
    (changes_answer, 0),
    (water_answer, 2),
    (springs_answer, 2),
    (houses_answer, 2),
    (house_answer, 2),
    (pass_answer, 4),
    (raw_answer, 3),
    (sum_answer, 0),
    (way_answer, 0),
    (level_answer, 3),
    (state_answer, 0),
    (highest_answer, 0),
)


# Where the numbers of the call at this place begin, and where the next call does.
def bounds(calls, at):
    if calls[at] == WAY:
        return (at + 2, at + 2 + calls[at + 1])
    return (at + 1, at + 1 + CALLS[calls[at]][1])


# For each call, in order: how many numbers are answered, then these.
def answers(calls):
    world = World()
    given = []
    at = 0
    while at < len(calls):
        replier = CALLS[calls[at]][0]
        ends = bounds(calls, at)
        answer = replier(world, calls[ends[0]:ends[1]])
        given.append(len(answer))
        given.extend(answer)
        at = ends[1]
    return given
