"""A desk: a wheel that is told what to do, and answers, in words."""

from timerdeque.errors import NoRow
from timerdeque.snapshots import restored
from timerdeque.wheel import Wheel


def is_number(word):
    """Whether this is a number in decimal, without a sign and without leading zeros."""
    # Other scripts have digits, too.
    return word.isascii() and word.isdigit() and (word == "0" or not word.startswith("0"))


def spaced(numbers):
    """A text of numbers."""
    return " ".join([str(number) for number in numbers])


def say_put(wheel, due):
    """Answer `put DUE`."""
    return str(wheel.put(due))


def say_put_every(wheel, due, period):
    """Answer `put DUE every PERIOD`."""
    return str(wheel.put(due, period=period))


def say_cancel(wheel, timer):
    """Answer `cancel N`."""
    wheel.cancel(timer)
    return "ok"


def say_reset(wheel, timer, due):
    """Answer `reset N DUE`."""
    wheel.reset(timer, due)
    return "ok"


def say_go(wheel, tick):
    """Answer `go TICK`."""
    parts = [f"{at}: {spaced(numbers)}" for at, numbers in wheel.advance(tick)]
    return "; ".join(parts) or "nothing"


def say_due(wheel, timer):
    """Answer `due N`."""
    return str(wheel.due(timer))


def say_firing(wheel, tick):
    """Answer `firing TICK`."""
    return spaced(wheel.firing(tick)) or "nothing"


def say_lists(wheel):
    """Answer `lists`."""
    parts = [f"{level}.{digit}: {spaced(numbers)}" for level, digit, numbers in wheel.lists()]
    return "; ".join(parts) or "empty"


# The words of each command, None for a number, and what answers it.
ANSWERS = {
    ("put", None): say_put,
    ("put", None, "every", None): say_put_every,
    ("cancel", None): say_cancel,
    ("reset", None, None): say_reset,
    ("go", None): say_go,
    ("due", None): say_due,
    ("firing", None): say_firing,
    ("lists",): say_lists,
}
CHANGING = ("put", "cancel", "reset", "go")


class Desk:
    """A wheel that answers commands, and a log of those that changed it."""

    def __init__(self, base, levels, *, start=0):
        self.own = Wheel(base, levels, start=start)
        self.rows = []

    def say(self, text):
        """Carry out a command; return its answer."""
        if not isinstance(text, str):
            raise NoRow("a command is a text")
        words = text.split(" ")
        form = tuple([None if is_number(word) else word for word in words])
        if form not in ANSWERS:
            raise NoRow("there is no command of this form")
        numbers = [int(word) for word in words if is_number(word)]
        action = ANSWERS[form]
        answer = action(self.own, *numbers)
        if words[0] in CHANGING:
            self.rows.append(text)
        return answer

    def log(self):
        """The commands put, cancel, reset and go that did not raise an error, as they were said."""
        return list(self.rows)

    def wheel(self):
        """A wheel of its own that is equal to that of the desk."""
        return restored(self.own.snapshot())


def replayed(base, levels, start, log):
    """A new desk to which the commands of a log were said."""
    desk = Desk(base, levels, start=start)
    if not isinstance(log, list):
        raise NoRow("a log is a list of commands")
    for text in log:
        desk.say(text)
    return desk
