"""Wheels made from their snapshots."""

from timerdeque.checks import are_levels, is_base, is_integer, is_period, is_tick
from timerdeque.errors import NoSnapshot
from timerdeque.wheel import Wheel


def is_row(given, now, following):
    """Whether this is a timer's row in a snapshot with this present tick and this next number."""
    if not isinstance(given, tuple) or len(given) != 3:
        return False
    number, due, period = given
    if not is_integer(number) or not 0 <= number < following:
        return False
    return is_tick(due, now + 1) and (period is None or is_period(period))


def is_snapshot(given):
    """Whether a wheel can be made from this."""
    if not isinstance(given, tuple) or len(given) != 5:
        return False
    base, levels, now, following, rows = given
    if not is_base(base) or not are_levels(levels) or not is_tick(now):
        return False
    if not is_integer(following) or following < 0 or not isinstance(rows, list):
        return False
    if not all([is_row(row, now, following) for row in rows]):
        return False
    return len(set([number for number, due, period in rows])) == len(rows)


def restored(snapshot):
    """A new wheel whose timers are set in the order of the rows of a snapshot."""
    if not is_snapshot(snapshot):
        raise NoSnapshot("a snapshot is a tuple (base, levels, now, following, rows) as snapshot() returns it")
    base, levels, now, following, rows = snapshot
    wheel = Wheel(base, levels, start=now)
    wheel.following = following
    wheel.live = {number: (due, period, now) for number, due, period in rows}
    return wheel
