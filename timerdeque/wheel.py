"""The wheel of timers, computed without stepping through ticks.

A wheel does not hold its lists. It holds its live timers in the order in which
they were set: a dict of number -> (due, period, since), where `since` is the tick
at which the timer was set. The digits of these ticks tell in which list a timer
stands at any tick, and on which side of the timers that were set before it.
"""

from timerdeque.checks import check_base, check_levels, check_tick, is_integer, is_period
from timerdeque.digits import firing_order, goes_in_front, level_and_size, path, with_timer, word_at
from timerdeque.errors import NoPeriod, NoTimer, TooMany

MOST_FIRINGS = 2000


def without_repeats(levels):
    """A copy of levels without words at the end that only repeat the word before them."""
    many = len(levels)
    while many > 1 and levels[many - 1] == levels[many - 2]:
        many -= 1
    return levels[:many]


def check_period(period):
    """Raise NoPeriod unless this is None or a period."""
    if period is not None and not is_period(period):
        raise NoPeriod("a period is None or an integer >= 1")


def order_of_firing(base, levels, live, tick):
    """The timers that are due at a tick, in the order in which they fire."""
    settings = [(number, since) for number, (due, period, since) in live.items() if due == tick]
    return firing_order(base, levels, tick, settings)


def standing(base, levels, live, tick):
    """The lists at a tick, as tuples (level, digit, numbers) in ascending order."""
    rows = {}
    for number, (due, period, since) in live.items():
        if due > tick:
            level, size = level_and_size(base, tick, due)
            place = (level, due // size % base)
            front = goes_in_front(base, levels, since, due, level)
            rows[place] = with_timer(rows.get(place, []), number, front)
    return [(level, digit, rows[level, digit]) for level, digit in sorted(rows)]


def least_due(live):
    """The least due tick, or None if there is no timer."""
    return min([due for due, period, since in live.values()], default=None)


def after_firing(live, numbers, tick):
    """The timers that are live when these have fired at a tick, in the order in which they were set."""
    left = dict(live)
    for number in numbers:
        due, period, since = left.pop(number)
        if period is not None:
            left[number] = (tick + period, period, tick)
    return left


class Wheel:
    """A timer wheel at its present tick."""

    def __init__(self, base, levels, *, start=0):
        check_base(base)
        check_levels(levels)
        check_tick(start)
        self.base = base
        self.words = without_repeats(levels)
        self.tick = start
        self.following = 0
        self.live = {}

    def __len__(self):
        return len(self.live)

    def __eq__(self, other):
        return isinstance(other, Wheel) and self.snapshot() == other.snapshot()

    def check_timer(self, timer):
        """Raise NoTimer unless this is the number of a live timer."""
        if not is_integer(timer) or timer not in self.live:
            raise NoTimer("there is no live timer of this number")

    def now(self):
        """The present tick."""
        return self.tick

    def put(self, due, *, period=None):
        """Set a new timer; return its number."""
        check_tick(due, self.tick + 1)
        check_period(period)
        number = self.following
        self.following += 1
        self.live[number] = (due, period, self.tick)
        return number

    def cancel(self, timer):
        """Remove a live timer."""
        self.check_timer(timer)
        del self.live[timer]

    def reset(self, timer, due):
        """Set a live timer anew, with the same number and period."""
        self.check_timer(timer)
        check_tick(due, self.tick + 1)
        # A dict keeps the place of a key that is assigned again: only a removed one comes last.
        before, period, since = self.live.pop(timer)
        self.live[timer] = (due, period, self.tick)

    def due(self, timer):
        """The due tick of a live timer."""
        self.check_timer(timer)
        return self.live[timer][0]

    def timers(self):
        """The numbers of the live timers, ascending."""
        return sorted(self.live)

    def advance(self, tick):
        """Let all ticks up to `tick` pass; return tuples (tick, numbers) of what fires."""
        check_tick(tick, self.tick)
        fired = []
        many = 0
        live = self.live
        at = least_due(live)
        while at is not None and at <= tick:
            numbers = order_of_firing(self.base, self.words, live, at)
            many += len(numbers)
            if many > MOST_FIRINGS:
                raise TooMany("more than 2000 firings in one call")
            fired.append((at, numbers))
            live = after_firing(live, numbers, at)
            at = least_due(live)
        # Nothing is stored before this line, so that a call that raises changes nothing.
        self.live = live
        self.tick = tick
        return fired

    def lists(self):
        """All lists that are not empty, as tuples (level, digit, numbers)."""
        return standing(self.base, self.words, self.live, self.tick)

    def firing(self, tick):
        """The timers that fire at a later tick, in order, if nothing changes any more."""
        check_tick(tick, self.tick + 1)
        return order_of_firing(self.base, self.words, self.live, tick)

    def lists_at(self, tick):
        """What lists() returns at a tick, if nothing changes any more."""
        check_tick(tick, self.tick)
        return standing(self.base, self.words, self.live, tick)

    def restoring(self):
        """Tuples (number, due) in an order in which new timers make the same lists."""
        rows = []
        for level, digit, numbers in self.lists():
            if word_at(self.words, level) == "stack":
                numbers = numbers[::-1]
            rows.extend([(number, self.live[number][0]) for number in numbers])
        return rows

    def snapshot(self):
        """The tuple (base, levels, now, following, rows) that tells all of the wheel."""
        rows = [(number, due, self.live[number][1]) for number, due in self.restoring()]
        return (self.base, list(self.words), self.tick, self.following, rows)

    def next_event(self):
        """The least later tick at which a list that is not empty is emptied, or None."""
        ticks = []
        for due, period, since in self.live.values():
            level, size = level_and_size(self.base, self.tick, due)
            ticks.append(due // size * size)
        return min(ticks, default=None)

    def next_firing(self):
        """The least due tick of a live timer, or None."""
        return least_due(self.live)

    def moves_until(self, tick):
        """How often timers are put into a list by the passing of the ticks up to `tick`."""
        check_tick(tick, self.tick)
        many = 0
        for due, period, since in self.live.values():
            # The first station is the list in which the timer stands already.
            later = path(self.base, self.tick, due)[1:]
            many += len([at for level, digit, at in later if at <= tick])
        return many
