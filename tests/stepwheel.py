"""A wheel that goes through the ticks one by one, by the rules of points 3 and 4 alone.

It holds the lists themselves, knows nothing of stations or sides, and is what the
tests compare the program with.
"""


def digit_at(base, tick, level):
    for _ in range(level):
        tick //= base
    return tick % base


def level_of(base, now, due):
    level, found = 0, None
    while now or due:
        if now % base != due % base:
            found = level
        now, due, level = now // base, due // base, level + 1
    return found


def zeros_at_end(base, tick):
    many = 0
    while tick % base == 0:
        tick, many = tick // base, many + 1
    return many


class StepWheel:
    def __init__(self, base, levels, start=0):
        self.base, self.levels, self.tick = base, list(levels), start
        self.rows = {}
        self.dues = {}
        self.periods = {}
        self.following = 0
        self.moves = 0
        self.events = []

    def copy(self, periodic=True):
        other = StepWheel(self.base, self.levels, self.tick)
        other.rows = {place: list(row) for place, row in self.rows.items()}
        other.dues = dict(self.dues)
        other.periods = dict(self.periods)
        if not periodic:
            other.periods = {number: None for number in self.periods}
        other.following = self.following
        return other

    def insert(self, number):
        due = self.dues[number]
        level = level_of(self.base, self.tick, due)
        row = self.rows.setdefault((level, digit_at(self.base, due, level)), [])
        if self.levels[min(level, len(self.levels) - 1)] == "stack":
            row.insert(0, number)
        else:
            row.append(number)

    def set(self, number, due, period):
        self.dues[number], self.periods[number] = due, period
        self.insert(number)

    def put(self, due, period=None):
        number = self.following
        self.following += 1
        self.set(number, due, period)
        return number

    def cancel(self, number):
        for row in self.rows.values():
            if number in row:
                row.remove(number)
        del self.dues[number]
        return self.periods.pop(number)

    def reset(self, number, due):
        self.set(number, due, self.cancel(number))

    def pass_one(self):
        self.tick += 1
        level = zeros_at_end(self.base, self.tick)
        row = self.rows.pop((level, digit_at(self.base, self.tick, level)), [])
        if row:
            self.events.append(self.tick)
        for number in row:
            if self.dues[number] != self.tick:
                self.insert(number)
                self.moves += 1
        fired = [number for number in row if self.dues[number] == self.tick]
        for number in fired:
            del self.dues[number]
            period = self.periods.pop(number)
            if period is not None:
                self.set(number, self.tick + period, period)
        return fired

    def advance(self, tick):
        told = []
        while self.tick < tick:
            fired = self.pass_one()
            if fired:
                told.append((self.tick, fired))
        return told

    def lists(self):
        return [(level, digit, list(self.rows[level, digit]))
                for level, digit in sorted(self.rows) if self.rows[level, digit]]

    def timers(self):
        return sorted(self.dues)
