"""Periodic timers on a wheel that goes through the ticks."""

from timerdeque.wheel import Wheel

LEVELS = [["stack"], ["queue"], ["stack", "queue"], ["queue", "stack"], ["stack", "queue", "stack"]]


def fires(timer, tick):
    return tick >= timer[0] and (tick - timer[0]) % timer[1] == 0


def run(base, levels, timers, end):
    """What fires at each tick of a wheel that goes through the ticks: a dict of tick -> timers in order."""
    wheel = Wheel(base, levels)
    for phase, period in timers:
        # A timer that fires at tick 0 is set again there.
        wheel.put(phase or period, period=period)
    seen = {}
    for tick in range(1, end):
        for at, numbers in wheel.advance(tick):
            seen[at] = numbers
    return seen
