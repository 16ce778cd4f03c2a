"""Wrong arguments of many kinds, and how tests try them."""

from timerdeque import errors
from timerdeque.wheel import Wheel


def others():
    """Objects that are neither an integer, nor None, nor a list of levels."""
    filled = Wheel(10, ["stack"])
    filled.put(1)
    return [
        True, False, 1.0, 5.0, 1e300, float("nan"), float("inf"), 2j, "", "5", "stack", b"", b"5",
        bytearray(b"5"), memoryview(b"5"), (), (5,), ("stack",), {}, {5: 5}, {"stack": 0}, set(), {5},
        frozenset(), range(5), slice(5), object(), NotImplemented, Ellipsis, int, list, Wheel, len,
        lambda: 5, (x for x in [5]), iter([5]), Wheel(10, ["stack"]), filled, errors.TimerError("5"),
        errors.NoTick(), errors.NoTick,
    ]


def not_integers():
    """Objects that are not integers; None among them, and lists, which are unhashable."""
    return others() + [None, [], [5], ["stack"], [[]]]


def not_ticks():
    return not_integers() + [-1, -10 ** 59]


def not_bases():
    return not_integers() + [-2, 0, 1, 65, 10 ** 50]


def not_levels():
    bad_words = ["", "Stack", "queues", "stack ", None, 0, True, b"stack", ("stack",), ["stack"], {}, Wheel(2, ["queue"])]
    return others() + [None, 5, [], ["stack"] * 61, ["queue"] * 100, ("stack", "queue")] + [
        row for word in bad_words for row in ([word], ["stack", word], [word, "queue"])]


def not_periods():
    return [given for given in not_integers() if given is not None] + [0, -1, -10 ** 59]


def not_timers():
    """What no wheel with fewer than a thousand timers knows as a number."""
    return not_integers() + [-1, 1000, 10 ** 50]


def not_periodic():
    """What is not a tuple of a phase >= 0 and a period >= 1."""
    phases = [-1, -10 ** 59, True, False, None, "0", b"0", 0.0, (), (0,), [], [0], {}, {0}, Wheel(2, ["queue"])]
    periods = [0, -1, -10 ** 59, True, False, None, "4", b"4", 4.0, (), (4,), [], [4], {}, {4}, Wheel(2, ["queue"])]
    return not_integers() + [
        5, [0, 4], (0, 4, 4), ((0, 4),), [(0, 4)], {0: 4}, {0, 4}, frozenset([0, 4]), "04", b"\x00\x04", range(0, 8, 4),
    ] + [(phase, 4) for phase in phases] + [(0, period) for period in periods] + [(None, None), (-1, 0)]


def not_several():
    """What is not a list of one or more periodic timers with different periods."""
    return not_integers() + [
        5, (), ((0, 4),), ((0, 4), (0, 6)), {(0, 4)}, {0: 4}, [(0, 4), (0, 4)], [(0, 4), (1, 6), (3, 4)],
    ] + [[given] for given in not_periodic()] + [[(0, 99), given] for given in not_periodic()]


def not_orders():
    """What is not a list of the numbers from 0 to m - 1, each once."""
    return others() + [
        None, 0, (0,), (0, 1), [1], [-1], [0, 0], [1, 1], [0, 2], [1, 2], [0, -1], [1, 0, 1], [0, 1, 3], [2, 0, 0],
        [False], [0, True], [True, False], [False, 1], [0, True, 2], [0.0], [0, 1.0], [None], [0, None], ["0"], [0, "1"],
        [b"0"], [[0]], [0, [1]], [(0,)], [0, {}], [0, {1}], [0, 10 ** 59], [0, Wheel(2, ["queue"])], "0", range(2),
    ]
