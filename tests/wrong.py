"""Wrong arguments of many kinds, and how tests try them."""

from timerdeque import errors
from timerdeque.desk import Desk
from timerdeque.wheel import Wheel


def others():
    """Objects that are neither an integer, nor None, nor a list of levels."""
    filled = Wheel(10, ["stack"])
    filled.put(1)
    told = Desk(10, ["stack"])
    told.say("put 1")
    return [
        True, False, 1.0, 5.0, 1e300, float("nan"), float("inf"), 2j, "", "5", "stack", b"", b"5",
        bytearray(b"5"), memoryview(b"5"), (), (5,), ("stack",), {}, {5: 5}, {"stack": 0}, set(), {5},
        frozenset(), range(5), slice(5), object(), NotImplemented, Ellipsis, int, list, Wheel, len,
        lambda: 5, (x for x in [5]), iter([5]), Wheel(10, ["stack"]), filled, errors.TimerError("5"),
        errors.NoTick(), errors.NoTick, Desk(10, ["stack"]), told, Desk, told.say, errors, type, super(int, 5),
        property(), staticmethod(len), {}.keys(), {5: 5}.values(), {5: 5}.items(), zip(), enumerate([5]), ValueError(5),
    ]


def not_integers():
    """Objects that are not integers; None among them, and lists, which are unhashable."""
    return others() + [None, [], [5], ["stack"], [[]]]


def not_ticks():
    return not_integers() + [-1, -10 ** 59]


def not_bases():
    return not_integers() + [-2, 0, 1, 65, 10 ** 50]


def not_levels():
    bad_words = ["", "Stack", "queues", "stack ", None, 0, True, b"stack", ("stack",), ["stack"], {}, Wheel(2, ["queue"])]
    return others() + [None, 5, [], ["stack"] * 61, ["queue"] * 100, ("stack", "queue")] + [
        row for word in bad_words for row in ([word], ["stack", word], [word, "queue"])]


def not_periods():
    return [given for given in not_integers() if given is not None] + [0, -1, -10 ** 59]


def not_timers():
    """What no wheel with fewer than a thousand timers knows as a number."""
    return not_integers() + [-1, 1000, 10 ** 50]


def not_periodic():
    """What is not a tuple of a phase >= 0 and a period >= 1."""
    phases = [-1, -10 ** 59, True, False, None, "0", b"0", 0.0, (), (0,), [], [0], {}, {0}, Wheel(2, ["queue"])]
    periods = [0, -1, -10 ** 59, True, False, None, "4", b"4", 4.0, (), (4,), [], [4], {}, {4}, Wheel(2, ["queue"])]
    return not_integers() + [
        5, [0, 4], (0, 4, 4), ((0, 4),), [(0, 4)], {0: 4}, {0, 4}, frozenset([0, 4]), "04", b"\x00\x04", range(0, 8, 4),
    ] + [(phase, 4) for phase in phases] + [(0, period) for period in periods] + [(None, None), (-1, 0)]


def not_several():
    """What is not a list of one or more periodic timers with different periods."""
    return not_integers() + [
        5, (), ((0, 4),), ((0, 4), (0, 6)), {(0, 4)}, {0: 4}, [(0, 4), (0, 4)], [(0, 4), (1, 6), (3, 4)],
    ] + [[given] for given in not_periodic()] + [[(0, 99), given] for given in not_periodic()]


def not_orders():
    """What is not a list of the numbers from 0 to m - 1, each once."""
    return others() + [
        None, 0, (0,), (0, 1), [1], [-1], [0, 0], [1, 1], [0, 2], [1, 2], [0, -1], [1, 0, 1], [0, 1, 3], [2, 0, 0],
        [False], [0, True], [True, False], [False, 1], [0, True, 2], [0.0], [0, 1.0], [None], [0, None], ["0"], [0, "1"],
        [b"0"], [[0]], [0, [1]], [(0,)], [0, {}], [0, {1}], [0, 10 ** 59], [0, Wheel(2, ["queue"])], "0", range(2),
    ]


def not_lengths():
    """What is not the length of a list of levels."""
    return not_integers() + [-1, 0, 61, 10 ** 50]


def not_sightings():
    """What is not a tuple of a tick, a greater one and a side."""
    ticks = not_integers() + [-1, -10 ** 59]
    sides = not_integers() + [0, 1, "Front", "front ", " back", "BACK", "", "stack", "queue", ("front",), ["back"], b"back"]
    return not_integers() + [
        7, (0,), (0, 5), (0, 5, "back", "back"), [0, 5, "back"], {0: 5}, ("back", 0, 5), (5, 5, "back"), (6, 5, "back"),
        (10 ** 59, 0, "front"), ((0, 5, "back"),), [(0, 5, "back")], (None, None, None),
    ] + [(now, 5, "back") for now in ticks] + [(0, due, "back") for due in ticks + [0]] + [(0, 5, told) for told in sides]


def not_seen():
    """What is not a list of sightings."""
    good, other = (0, 12, "front"), (0, 5, "back")
    return others() + [None, 7, good, (good,), (good, other), {good}, {good: other}, "front", [[good]]] + [
        [wrong] for wrong in not_sightings()] + [[good, other, wrong] for wrong in not_sightings()] + [
        [wrong, good] for wrong in not_sightings()]


def not_rows(now, following):
    """What is not the row of a timer in a snapshot with at least one timer."""
    return not_integers() + [
        7, (), (0,), (0, now + 1), (0, now + 1, None, None), [0, now + 1, None], ((0, now + 1, None),), {0: now + 1},
    ] + [(number, now + 1, None) for number in not_integers() + [-1, following, following + 1, 10 ** 50]
         ] + [(0, due, None) for due in not_ticks() + [0, now]
              ] + [(0, now + 1, period) for period in not_periods()]


def not_snapshots():
    """What is not such a tuple as snapshot() returns: each part spoilt alone."""
    good = (10, ["stack"], 3, 6, [(3, 9, None), (1, 15, 7), (0, 205, None), (5, 217, 1)])
    empty = (10, ["stack"], 3, 0, [])
    rows = good[4]
    spoilt = [not_bases(), not_levels(), not_ticks() + [9, 15, 10 ** 50], not_integers() + [-1, 0, 3, 5],
              others() + [None, 5, tuple(rows), {}, dict.fromkeys(rows), [rows], rows + rows[:1], rows + [(5, 99, None)]]
              + [[wrong] for wrong in not_rows(3, 6)] + [rows + [wrong] for wrong in not_rows(3, 6)]
              + [rows[:2] + [wrong] + rows[3:] for wrong in not_rows(3, 6)]]
    return not_integers() + [
        7, list(good), good[:4], good[1:], good + (None,), good + good, (good,), [good], good[::-1], dict(enumerate(good)),
        (None,) * 5, ([],) * 5, (10, ["stack"], 3, 0, [(0, 205, None)]), (10, ["stack"], 3, 1, [(1, 205, None)]),
        (True, ["stack"], True, True, [(False, 2, True)]),
    ] + [good[:at] + (wrong,) + good[at + 1:] for at, parts in enumerate(spoilt) for wrong in parts] + [
        empty[:at] + (wrong,) + empty[at + 1:]
        for at, parts in enumerate([not_bases(), not_levels(), not_ticks(), not_ticks()]) for wrong in parts]


def not_commands():
    """Texts and other objects that are not commands of a desk, though many are nearly such."""
    words = ["put 205", "put 205 every 7", "cancel 0", "reset 0 205", "go 205", "due 0", "firing 205", "lists"]
    found = others() + [None, 0, [], [5], ["lists"], ("lists",), ["put", 205], b"lists", b"put 205", bytearray(b"lists")]
    for text in words:
        parts = text.split(" ")
        found += [" " + text, text + " ", "\t" + text, text + "\t", text + "\n", "\n" + text, text + "\r\n", text + "\x00",
                  text.upper(), text.title(), text.capitalize(), text + ";", text + ".", text + " " + text, text + ", lists",
                  text + "; lists", "please " + text, text + " now", text + " 5 5 5", "\u00a0" + text, text + "\u200b"]
        found += [text.replace(" ", gap, 1) for gap in ("  ", "\t", "\n", "\u00a0", "", ",", "_", " \t", "\x1f") if " " in text]
        found += [" ".join(parts[:at] + parts[at + 1:]) for at in range(len(parts)) if len(parts) > 1]
        found += [" ".join(parts[:at] + [parts[at]] + parts[at:]) for at in range(len(parts))]
        for at, part in enumerate(parts):
            if part.isdigit():
                wrong = ["+" + part, "-" + part, "0" + part, "00" + part, part + ".0", part + "_5", "_5", "5_", "0x" + part,
                         part + "e1", "one", "N", "None", "", "\u0665", "\u00b2", "5\u00b2", "\uff15", "\u0967", "True", "-0", "+0",
                         "00", '"5"', "(5)", part + "L", part + ",", "DUE", "1,000"]
            else:
                wrong = [part[:-1], part + "s", part.upper(), part[0].upper() + part[1:], part + ":", "", "7", part[1:]]
            found += [" ".join(parts[:at] + [word] + parts[at + 1:]) for word in wrong]
    return found + [
        "", " ", "  ", "\n", "0", "205", "every", "put", "go", "put every", "put 205 every", "put every 7", "every 7 put 205",
        "205 put", "put 205 Every 7", "put 205 every 7 every 7", "put 205 7", "put 205 every every 7", "put 205 each 7",
        "reset 0", "reset 205", "reset 0 205 every 7", "reset 0 205 7", "cancel", "cancel 0 1", "cancel all", "go", "go to 205",
        "go 205 300", "due", "due 0 1", "firing", "firing 205 206", "lists 5", "lists 0.5", "list", "advance 205", "now", "log",
        "wheel", "timers", "len", "lists_at 205", "snapshot", "restoring", "next_event", "moves_until 9", "help", "nothing", "ok",
    ]
