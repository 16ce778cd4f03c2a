"""What counts as an integer, a base, levels and a tick."""

from timerdeque.errors import NoBase, NoLevels, NoTick

WORDS = ("stack", "queue")
MOST_LEVELS = 60


def is_integer(given):
    """True and False are not integers here."""
    return isinstance(given, int) and not isinstance(given, bool)


def is_word(given):
    """Whether this is the word of a level."""
    return isinstance(given, str) and given in WORDS


def check_base(base):
    """Raise NoBase unless this is a base."""
    if not is_integer(base) or not 2 <= base <= 64:
        raise NoBase("a base is an integer from 2 to 64")


def check_levels(levels):
    """Raise NoLevels unless these are levels."""
    if not isinstance(levels, list) or not 1 <= len(levels) <= MOST_LEVELS:
        raise NoLevels("levels are a list of 1 to 60 words")
    if not all([is_word(word) for word in levels]):
        raise NoLevels("each word of the levels is stack or queue")


def check_tick(tick, least=0):
    """Raise NoTick unless this is a tick that is not less than `least`."""
    if not is_integer(tick) or tick < least:
        raise NoTick("a tick is an integer >= 0, and not before the ticks that it must follow")
