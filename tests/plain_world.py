"""The document's own words, worked out the plain and slow way, to hold the program against.

Nothing here is drawn from the program.
"""

import functools

P = 2147483647


def stir(h, v):
    a = (h * 16807 + (v + 1) * 48271) % P
    return (a * a + 12345) % P


@functools.lru_cache(maxsize=None)
def raw(seed, purpose, x, y):
    h = seed % P
    for v in (purpose, x, y, 0):
        h = stir(h, v)
    return h


def layer(seed, purpose, s, high, x, y):
    i, u = divmod(x, s)
    j, v = divmod(y, s)
    total = 0
    for di, share_x in ((0, s - u), (1, u)):
        for dj, share_y in ((0, s - v), (1, v)):
            total += raw(seed, purpose, i + di, j + dj) % (high + 1) * share_x * share_y
    return total // (s * s)


class PlainGround:
    """The whole made world at once: heights, candidates, houses, kinds, by (x, y)."""

    def __init__(self, seed, width, depth):
        self.seed, self.width, self.depth = seed, width, depth
        self.places = [(x, y) for y in range(depth) for x in range(width)]
        self.heights = {place: self.height(*place) for place in self.places}
        self.candidates = [house for house in map(self.candidate, self.places) if house]
        self.houses = [house for house in self.candidates if self.stands(house)]
        self.covered = {cell for house in self.houses for cell in cells(house)}
        self.kinds = {place: self.kind(place) for place in self.places}

    def height(self, x, y):
        sizes = ((1, 16, 2000), (2, 8, 1000), (3, 4, 500))
        return sum(layer(self.seed, purpose, s, high, x, y) for purpose, s, high in sizes)

    def candidate(self, place):
        if raw(self.seed, 5, *place) % 12:
            return None
        house = place + (2 + raw(self.seed, 6, *place) % 3, 2 + raw(self.seed, 7, *place) % 3)
        if not all(cell in self.heights for cell in cells(house)):
            return None
        found = [self.heights[cell] for cell in cells(house)]
        return house if max(found) - min(found) <= 300 else None

    def ahead_first(self, house):
        return (-raw(self.seed, 8, house[0], house[1]), house[1], house[0])

    def stands(self, house):
        rivals = [other for other in self.candidates if other != house and touch(other, house)]
        return all(self.ahead_first(house) < self.ahead_first(other) for other in rivals)

    def kind(self, place):
        if place in self.covered:
            return 3
        if self.heights[place] >= 2300:
            return 1
        return 2 if layer(self.seed, 4, 4, 1000, *place) >= 600 else 0


@functools.lru_cache(maxsize=None)
def plain_ground(seed, width, depth):
    return PlainGround(seed, width, depth)


def cells(house):
    x, y, width, depth = house
    return [(x + k, y + m) for m in range(depth) for k in range(width)]


def piece_places(i, j):
    return [(8 * i + k, 8 * j + m) for m in range(8) for k in range(8)]


def touch(one, other):
    """Whether two houses have a cell in common, or cells with a side or a corner in common."""
    return any(abs(a - c) <= 1 and abs(b - d) <= 1 for a, b in cells(one) for c, d in cells(other))


def neighbours(ground, place):
    x, y = place
    around = ((x + 1, y), (x - 1, y), (x, y + 1), (x, y - 1))
    return [other for other in around if other in ground.heights]


def is_edge(ground, place):
    return place[0] in (0, ground.width - 1) or place[1] in (0, ground.depth - 1)


class PlainWorld:
    """A line's calls, answered by the document's words."""

    def __init__(self):
        self.renew(0, 8, 8, 4)

    def renew(self, seed, width, depth, room):
        self.ground = plain_ground(seed, width, depth)
        self.room = room
        self.made = 0
        self.kept = []
        self.changes = []

    def change(self, place):
        return next(((up, built) for at, up, built in self.changes if at == place), None)

    def set_change(self, place, up, built):
        self.changes = [change for change in self.changes if change[0] != place]
        if up or built:
            self.changes.append((place, up, built))

    def height(self, place):
        up = (self.change(place) or (0, 0))[0]
        return sorted((0, self.ground.heights[place] + up, 9999))[1]

    def kind(self, place):
        return (self.change(place) or (0, 0))[1] or self.ground.kinds[place]

    def look(self, piece):
        if piece in self.kept:
            self.kept.remove(piece)
        else:
            self.made += 1
        self.kept = (self.kept + [piece])[-self.room:]

    def is_piece(self, piece):
        return piece[0] in range(self.ground.width // 8) and piece[1] in range(self.ground.depth // 8)

    def full_for(self, place):
        return len(self.changes) == 60 and self.change(place) is None

    def answer(self, call):
        names = ("begin", "cell", "piece", "forget", "kept_pieces", "dig", "build", "undo", "changed", "water",
                 "springs", "houses", "house", "pass_between", "raw", "sum", "way", "level", "state", "highest")
        return getattr(self, names[call[0]])(*call[1:])

    def begin(self, seed, width, depth, room):
        sides = (8, 16, 24, 32)
        if seed not in range(10 ** 9 + 1) or width not in sides or depth not in sides or room not in range(1, 9):
            return [-1]
        self.renew(seed, width, depth, room)
        return [0]

    def cell(self, x, y):
        if (x, y) not in self.ground.heights:
            return [-1]
        self.look((x // 8, y // 8))
        return [0, self.height((x, y)), self.kind((x, y))]

    def piece(self, i, j):
        if not self.is_piece((i, j)):
            return [-1]
        self.look((i, j))
        answer = [0]
        for place in piece_places(i, j):
            answer += [self.height(place), self.kind(place)]
        return answer

    def forget(self, i, j):
        if not self.is_piece((i, j)):
            return [-1]
        if (i, j) not in self.kept:
            return [-4]
        self.kept.remove((i, j))
        return [0, len(self.kept)]

    def kept_pieces(self):
        return [0, self.made] + [number for piece in self.kept for number in piece]

    def dig(self, x, y, up):
        place = (x, y)
        if place not in self.ground.heights or up not in range(-500, 501):
            return [-1]
        before, built = self.change(place) or (0, 0)
        if before + up not in range(-9999, 10000):
            return [-3]
        if self.full_for(place):
            return [-5]
        self.set_change(place, before + up, built)
        return [0, self.height(place)]

    def build(self, x, y, kind):
        place = (x, y)
        if place not in self.ground.heights or kind not in range(4, 10):
            return [-1]
        if place in self.ground.covered:
            return [-3]
        if self.full_for(place):
            return [-5]
        self.set_change(place, (self.change(place) or (0, 0))[0], kind)
        return [0]

    def undo(self, x, y):
        if (x, y) not in self.ground.heights:
            return [-1]
        if self.change((x, y)) is None:
            return [-4]
        self.set_change((x, y), 0, 0)
        return [0, self.height((x, y))]

    def changed(self):
        return [0] + [number for place, up, built in self.changes for number in place + (up, built)]

    def water(self, x, y):
        if (x, y) not in self.ground.heights:
            return [-1]
        wet = self.wet((x, y), [place for place in self.ground.places if is_edge(self.ground, place)])
        return [0, max(map(self.height, wet))] + [self.number(place) for place in wet]

    def wet(self, start, asked):
        wet = []
        shore = {start}
        while not wet or wet[-1] not in asked:
            lowest = min(shore, key=lambda place: (self.height(place), self.number(place)))
            wet.append(lowest)
            shore = (shore | set(neighbours(self.ground, lowest))) - set(wet)
        return wet

    def number(self, place):
        return place[1] * self.ground.width + place[0]

    def springs(self, i, j):
        if not self.is_piece((i, j)):
            return [-1]
        answer = [0]
        for x, y in piece_places(i, j):
            if raw(self.ground.seed, 9, x, y) % 24 == 0 and self.ground.heights[x, y] >= 1400:
                answer += [x, y]
        return answer

    def houses(self, i, j):
        if not self.is_piece((i, j)):
            return [-1]
        corners = {house[:2]: house for house in self.ground.houses}
        return [0] + [number for place in piece_places(i, j) for number in corners.get(place, ())]

    def house(self, x, y):
        if (x, y) not in self.ground.heights:
            return [-1]
        over = [house for house in self.ground.houses if (x, y) in cells(house)]
        return [0, *over[0]] if over else [-4]

    def pass_between(self, x1, y1, x2, y2):
        if (x1, y1) not in self.ground.heights or (x2, y2) not in self.ground.heights:
            return [-1]
        wet = self.wet((x1, y1), [(x2, y2)])
        return [0, max(map(self.height, wet)), len(wet)]

    def raw(self, purpose, x, y):
        if purpose not in range(1, 10) or x not in range(101) or y not in range(101):
            return [-1]
        return [0, raw(self.ground.seed, purpose, x, y)]

    def sum(self):
        it = 7
        for place in self.ground.places:
            it = (it * 31 + self.height(place) * 10 + self.kind(place)) % P
        return [0, it]

    def way(self, row):
        if not row or any(number not in range(len(self.ground.places)) for number in row):
            return [-1]
        places = [self.ground.places[number] for number in row]
        if any(after not in neighbours(self.ground, before) for before, after in zip(places, places[1:])):
            return [0, 0]
        return [0, 1, max(map(self.height, places)), int(is_edge(self.ground, places[-1]))]

    def level(self, x, y, h):
        if (x, y) not in self.ground.heights or h not in range(10000):
            return [-1]
        come_to, new = set(), {(x, y)}
        while new:
            new = {place for place in new if self.height(place) <= h}
            come_to |= new
            new = {other for place in new for other in neighbours(self.ground, place)} - come_to
        return [0, len(come_to), int(any(is_edge(self.ground, place) for place in come_to))]

    def state(self):
        return [0, self.ground.width, self.ground.depth, self.room, len(self.kept), self.made, len(self.changes)]

    def highest(self):
        x, y = min(self.ground.places, key=lambda place: (-self.height(place), self.number(place)))
        return [0, x, y, self.height((x, y)), min(map(self.height, self.ground.places))]


def plain_answers(calls):
    world = PlainWorld()
    return [world.answer(call) for call in calls]
