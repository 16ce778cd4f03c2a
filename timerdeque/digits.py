"""The digits of a due tick: the lists that its timer goes through, and the side on which it fires."""

from timerdeque.checks import check_base, check_levels, check_tick


def word_at(levels, level):
    """The word of a level; every level beyond the list has the last word."""
    return levels[min(level, len(levels) - 1)]


def level_and_size(base, now, due):
    """The level of a later due tick at `now`, and the base to the power of that level."""
    level, size = 0, 1
    above_now, above_due = now // base, due // base
    while above_now != above_due:
        above_now, above_due = above_now // base, above_due // base
        level, size = level + 1, size * base
    return level, size


def path(base, now, due):
    """The stations, for arguments that are known to be valid."""
    level, size = level_and_size(base, now, due)
    rows = [(level, due // size % base, now)]
    while level > 0:
        # The digits between two stations are 0, so that cutting at the level just
        # above gives the same tick as cutting at the station before.
        tick = due // size * size
        level, size = level - 1, size // base
        digit = due // size % base
        if digit != 0:
            rows.append((level, digit, tick))
    return rows


def goes_in_front(base, levels, now, due, lowest):
    """Whether a timer set at `now` stands before the earlier ones in its list at the level `lowest`.

    Each stack turns the order of two timers round, the first one by taking the
    new timer at its front; below their first common list they move together.
    """
    front = False
    for level, digit, tick in path(base, now, due):
        if level >= lowest and word_at(levels, level) == "stack":
            front = not front
    return front


def with_timer(numbers, number, front):
    """A list of timers with one more, at the front or at the end."""
    if front:
        return [number] + numbers
    return numbers + [number]


def firing_order(base, levels, due, settings):
    """The timers of one due tick in the order in which they fire.

    `settings` are tuples (number, now) in the order in which the timers were set.
    """
    numbers = []
    for number, now in settings:
        numbers = with_timer(numbers, number, goes_in_front(base, levels, now, due, 0))
    return numbers


def stations(base, now, due):
    """The lists in which a timer set at `now` stands, as tuples (level, digit, tick), highest first."""
    check_base(base)
    check_tick(now)
    check_tick(due, now + 1)
    return path(base, now, due)


def side(base, levels, now, due):
    """Whether a timer set at `now` fires at the "front" or at the "back" of those set before it."""
    check_base(base)
    check_levels(levels)
    check_tick(now)
    check_tick(due, now + 1)
    if goes_in_front(base, levels, now, due, 0):
        return "front"
    return "back"
