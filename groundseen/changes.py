"""The changes, which are kept beside the made ground."""

MOST_CHANGED = 60
NO_CHANGE = (0, 0)


# Of each changed cell how much higher it is and what's built, the one changed last behind all others.
class Changes:
    def __init__(self):
        self.cells = {}

    def is_changed(self, x, y):
        return (x, y) in self.cells

    def has_place(self, x, y):
        return self.is_changed(x, y) or len(self.cells) < MOST_CHANGED

    def up_at(self, x, y):
        return self.cells.get((x, y), NO_CHANGE)[0]

    def built_at(self, x, y):
        return self.cells.get((x, y), NO_CHANGE)[1]

    def put(self, x, y, up, built):
        # Taken out first, so that a cell changed again comes behind all others.
        self.cells.pop((x, y), None)
        if (up, built) != NO_CHANGE:
            self.cells[(x, y)] = (up, built)
