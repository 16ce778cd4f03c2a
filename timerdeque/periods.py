"""Periodic timers as tuples (phase, period): when they meet, and which fires first there."""

from timerdeque.checks import check_base, check_levels, check_tick, is_period, is_tick
from timerdeque.digits import firing_order, goes_in_front
from timerdeque.errors import NoPeriod, NoTick, TooMany

MOST_MEETINGS = 2000


def is_periodic(given):
    """Whether this is a periodic timer."""
    if not isinstance(given, tuple) or len(given) != 2:
        return False
    phase, period = given
    return is_tick(phase) and is_period(period)


def check_periodic(given):
    """Raise NoPeriod unless this is a periodic timer."""
    if not is_periodic(given):
        raise NoPeriod("a periodic timer is a tuple of a phase >= 0 and a period >= 1")


def check_two(one, other):
    """Raise NoPeriod unless these are periodic timers with different periods."""
    check_periodic(one)
    check_periodic(other)
    if one[1] == other[1]:
        raise NoPeriod("the two periods are different")


def check_several(some):
    """Raise NoPeriod unless this is a list of periodic timers with different periods."""
    if not isinstance(some, list) or len(some) == 0:
        raise NoPeriod("the periodic timers are a list that is not empty")
    for given in some:
        check_periodic(given)
    if len(set([period for phase, period in some])) != len(some):
        raise NoPeriod("all periods are different")


def fires_again(timer, tick):
    """Whether a periodic timer fires at a tick, and not for the first time."""
    phase, period = timer
    return tick > phase and (tick - phase) % period == 0


def divisor_and_factor(number, modulus):
    """The greatest common divisor, and a factor that makes the divisor of `number`, up to the modulus."""
    divisor, rest = number, modulus
    factor, following = 1, 0
    while rest != 0:
        times = divisor // rest
        divisor, rest = rest, divisor - times * rest
        factor, following = following, factor - times * following
    return divisor, factor


def meetings(one, other):
    """What common() returns, for timers that are known to be valid."""
    phase, period = one
    other_phase, other_period = other
    divisor, factor = divisor_and_factor(period, other_period)
    apart = other_phase - phase
    if apart % divisor != 0:
        return None
    # At this tick the periods agree; it may lie before a phase, even below 0.
    tick = phase + apart // divisor * factor * period
    every = period // divisor * other_period
    begin = max(phase, other_phase)
    return (begin + (tick - begin) % every, every)


def is_ahead(base, levels, one, other, tick):
    """Whether `one` fires ahead of `other` at a tick at which both fire again."""
    # The one with the smaller period was set later, so that its side tells.
    if one[1] < other[1]:
        return goes_in_front(base, levels, tick - one[1], tick, 0)
    return not goes_in_front(base, levels, tick - other[1], tick, 0)


def common(one, other):
    """The tuple (first, every) of the first tick at which both fire and the distance of two, or None."""
    check_periodic(one)
    check_periodic(other)
    return meetings(one, other)


def first_of_two(base, levels, one, other, tick):
    """0 if `one` fires ahead of `other` at a common tick, else 1."""
    check_base(base)
    check_levels(levels)
    check_two(one, other)
    check_tick(tick)
    if not fires_again(one, tick) or not fires_again(other, tick):
        raise NoTick("both timers fire at this tick, and not for the first time")
    if is_ahead(base, levels, one, other, tick):
        return 0
    return 1


def order_at(base, levels, some, tick):
    """The indexes of the timers that fire at a tick, in the order in which they fire."""
    check_base(base)
    check_levels(levels)
    check_several(some)
    check_tick(tick)
    if tick in [phase for phase, period in some]:
        raise NoTick("no timer fires at this tick for the first time")
    rows = [(timer[1], index) for index, timer in enumerate(some) if fires_again(timer, tick)]
    # Each was set when it fired last: the one with the greatest period first of all.
    settings = [(index, tick - period) for period, index in sorted(rows, reverse=True)]
    return firing_order(base, levels, tick, settings)


def times_first(base, levels, one, other, first, behind):
    """At how many ticks from `first` to before `behind` both fire again, and `one` ahead of `other`."""
    check_base(base)
    check_levels(levels)
    check_two(one, other)
    check_tick(first)
    check_tick(behind, first)
    found = meetings(one, other)
    if found is None:
        return 0
    meeting, every = found
    meeting += max(0, first - meeting + every - 1) // every * every
    if max(0, behind - meeting + every - 1) // every > MOST_MEETINGS:
        raise TooMany("both timers fire at more than 2000 ticks of this range")
    ticks = [tick for tick in range(meeting, behind, every) if tick > max(one[0], other[0])]
    return len([tick for tick in ticks if is_ahead(base, levels, one, other, tick)])
