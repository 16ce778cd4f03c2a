"""Wrong arguments of many kinds, and how tests try them."""

from timerdeque import errors
from timerdeque.wheel import Wheel


def others():
    """Objects that are neither an integer, nor None, nor a list of levels."""
    filled = Wheel(10, ["stack"])
    filled.put(1)
    return [
        True, False, 1.0, 5.0, 1e300, float("nan"), float("inf"), 2j, "", "5", "stack", b"", b"5",
        bytearray(b"5"), memoryview(b"5"), (), (5,), ("stack",), {}, {5: 5}, {"stack": 0}, set(), {5},
        frozenset(), range(5), slice(5), object(), NotImplemented, Ellipsis, int, list, Wheel, len,
        lambda: 5, (x for x in [5]), iter([5]), Wheel(10, ["stack"]), filled, errors.TimerError("5"),
        errors.NoTick(), errors.NoTick,
    ]


def not_integers():
    """Objects that are not integers; None among them, and lists, which are unhashable."""
    return others() + [None, [], [5], ["stack"], [[]]]


def not_ticks():
    return not_integers() + [-1, -10 ** 59]


def not_bases():
    return not_integers() + [-2, 0, 1, 65, 10 ** 50]


def not_levels():
    bad_words = ["", "Stack", "queues", "stack ", None, 0, True, b"stack", ("stack",), ["stack"], {}, Wheel(2, ["queue"])]
    return others() + [None, 5, [], ["stack"] * 61, ["queue"] * 100, ("stack", "queue")] + [
        row for word in bad_words for row in ([word], ["stack", word], [word, "queue"])]


def not_periods():
    return [given for given in not_integers() if given is not None] + [0, -1, -10 ** 59]


def not_timers():
    """What no wheel with fewer than a thousand timers knows as a number."""
    return not_integers() + [-1, 1000, 10 ** 50]
