"""When to set timers so that they fire in a given order, and what tells two wheels apart."""

from timerdeque.checks import check_base, check_levels, check_tick, is_integer
from timerdeque.digits import goes_in_front, path, word_at
from timerdeque.errors import NoOrder


def check_order(order):
    """Raise NoOrder unless this is a list of the numbers from 0 to m - 1, each once."""
    if not isinstance(order, list) or len(order) == 0:
        raise NoOrder("an order is a list that is not empty")
    if not all([is_integer(number) for number in order]) or sorted(order) != list(range(len(order))):
        raise NoOrder("an order has each number from 0 to m - 1 once")


def ticks_and_sides(base, levels, start, due):
    """Tuples (tick, front) in ascending order: from this tick on the side is the front, or the back."""
    rows = []
    front = False
    # The stations of a timer set where another one moves are the other one's from there on.
    for level, digit, tick in reversed(path(base, start, due)):
        if word_at(levels, level) == "stack":
            front = not front
        rows.append((tick, front))
    return rows[::-1]


def sides_wanted(order):
    """For each timer from 1 on: True for the front of the earlier ones, False for the back, None between them."""
    wanted = []
    low = high = order.index(0)
    for number in range(1, len(order)):
        place = order.index(number)
        if place < low:
            wanted.append(True)
        elif place > high:
            wanted.append(False)
        else:
            wanted.append(None)
        low, high = min(low, place), max(high, place)
    return wanted


def set_ticks(base, levels, start, due, order):
    """The least ticks at which to set timers so that they fire in this order, or the first that cannot be set."""
    check_base(base)
    check_levels(levels)
    check_tick(start)
    check_tick(due, start + 1)
    check_order(order)
    rows = ticks_and_sides(base, levels, start, due)
    ticks = [start]
    # The least tick for each timer leaves the most ticks to those after it.
    at = 0
    for front in sides_wanted(order):
        while at < len(rows) and rows[at][1] != front:
            at += 1
        if at == len(rows):
            return ("never", len(ticks))
        ticks.append(rows[at][0])
    return ("ticks", ticks)


def size_of_lowest_stack(base, levels):
    """What a 1 is worth at the lowest level of stacks, or None if there is none."""
    size = 1
    for word in levels:
        if word == "stack":
            return size
        size *= base
    return None


def powers(base, many):
    """The first `many` powers of a base, from 1 on."""
    sizes = [1]
    while len(sizes) < many:
        sizes.append(sizes[-1] * base)
    return sizes


def telling_dues(base, levels, other_base, other_levels):
    """Due ticks in ascending order; the least one that tells the wheels apart is among them, if there is one."""
    if base == other_base:
        # The lowest level with two words tells, and its least due tick has it as the only station.
        return powers(base, max(len(levels), len(other_levels)))
    found = [size_of_lowest_stack(base, levels), size_of_lowest_stack(other_base, other_levels)]
    sizes = [size for size in found if size is not None]
    if len(sizes) == 0:
        return []
    # Before the lowest stack every timer goes to the back. If both wheels have it at the
    # same due tick, they agree until the lesser base carries above it: there, or one size
    # later, the two have different stacks on the way.
    size, least = min(sizes), min(base, other_base)
    return [size, least * size, (least + 1) * size]


def first_difference(base, levels, other_base, other_levels, due):
    """The least tick at which the sides of this due tick differ, or None."""
    # A side changes only at the tick of a station.
    ticks = [tick for level, digit, tick in path(base, 0, due) + path(other_base, 0, due)]
    for now in sorted(ticks):
        front = goes_in_front(base, levels, now, due, 0)
        if front != goes_in_front(other_base, other_levels, now, due, 0):
            return now
    return None


def told_apart(base, levels, other_base, other_levels):
    """("apart", due, now) with the least due tick and tick whose sides differ in two wheels, or ("alike",)."""
    check_base(base)
    check_levels(levels)
    check_base(other_base)
    check_levels(other_levels)
    for due in telling_dues(base, levels, other_base, other_levels):
        now = first_difference(base, levels, other_base, other_levels, due)
        if now is not None:
            return ("apart", due, now)
    return ("alike",)
